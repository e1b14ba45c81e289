import PyProof.Rows.All
import Wide.All
import OpenK.AllK
import Wide.FinOn
import PyProof.EqAt
import PyProof.EqKinds
import PyProof.TupleCall
import HandS.ForMost
import PyProof.Rows.StrMul
import HandS.Lambda
import HandS.AnyAll
import HandS.EndTab
import HandS.IsInst
import KE.GoesZip
import KE.GoesMore
import HandS.Codes
import KE.DatumOrd
import HandS.Walk
import HandS.Words
import HandS.Nested
import HandS.ExcInit
import HandS.ExcField
import HandS.ExcIs
import HandS.WordsExc
import KE.KExcIs
import HandS.ExcOwn
import HandS.Set
import HandS.SetTxt0
import PyProof.ListStr
import HandS.OwnIter
import HandS.IterVal
import HandS.Property
import HandS.MakeKwOnly
import HandS.SortKw
import KE.SortKeyHeap
import HandS.Iter
import HandS.Exc
import HandS.ExcValue
import HandS.DictComp
import HandS.Dict
import KE.GoesEnum
import PyProof.Rows.SetFrom
import PyProof.Rows.StrMeet
import KE.DataMinKey
import HandS.TupLe
import HandS.Style
import PyProof.Rows.StrRev
import HandS.Conv
import KE.SortData
import KE.SortLaws
import HandS.TupLen
import HandS.FStr
import HandS.Deep
import KE.KDictZip
import PySem.Challenge.RW_lagbound_k21_renumber_a_machine
set_option Elab.async false
set_option linter.all false
set_option maxRecDepth 100000
set_option maxHeartbeats 4000000
namespace Lb
open PySem PySem.Spec PyProof.Rows L2
/-! ### texts as lists of their signs -/
def cs (x : Str) : List Nat := x.cps.toList
theorem cs_len (x : Str) : (cs x).length = x.length := by
  show x.cps.toList.length = x.cps.size
  rw [Array.length_toList]
theorem cs_ext {x y : Str} (h : cs x = cs y) : x = y := Str.ext' (Array.toList_inj.mp h)
theorem cs_app (x y : Str) : cs (x ++ y) = cs x ++ cs y := by
  show (x.cps ++ y.cps).toList = x.cps.toList ++ y.cps.toList
  rw [Array.toList_append]
theorem cs_mk (l : List Nat) : cs ⟨l.toArray⟩ = l := by
  show l.toArray.toList = l
  rfl
theorem cs_one (c : Nat) : cs ⟨#[c]⟩ = [c] := rfl
theorem cs_empty : cs (Str.ofString "") = [] := by decide +kernel
theorem foldl_app (ls : List (Array Nat)) : ∀ a : Array Nat, (ls.foldl (· ++ ·) a).toList = a.toList ++ (ls.map Array.toList).flatten := by
  induction ls with
  | nil => intro a; simp
  | cons x r ih => intro a; rw [List.foldl_cons, ih]; simp
theorem cs_mul (x : Str) (n : Int) : cs (Txt.mul x n) = (List.replicate n.toNat (cs x)).flatten := by
  unfold Txt.mul
  by_cases h1 : n < 1
  · rw [if_pos h1]
    have e : n.toNat = 0 := by omega
    rw [e]
    rfl
  · rw [if_neg h1]
    by_cases h2 : (n == 1 || x.length == 0) = true
    · rw [if_pos h2]
      rw [Bool.or_eq_true, beq_iff_eq, beq_iff_eq] at h2
      rcases h2 with rfl | h2
      · show cs x = (List.replicate 1 (cs x)).flatten
        simp
      · have e : cs x = [] := List.length_eq_zero_iff.mp (by rw [cs_len]; exact h2)
        rw [e]
        simp
    · rw [if_neg h2]
      show ((List.replicate n.toNat x.cps).foldl (· ++ ·) #[]).toList = _
      rw [foldl_app]
      simp [cs]
theorem mem_mul {x : Str} {n : Int} {c : Nat} (h : c ∈ cs (Txt.mul x n)) : c ∈ cs x := by
  rw [cs_mul, List.mem_flatten] at h
  obtain ⟨l, hl, hc⟩ := h
  rw [(List.mem_replicate.mp hl).2] at hc
  exact hc
theorem length_mul (x : Str) (n : Int) : (Txt.mul x n).length = x.length * n.toNat := by
  have e : ∀ k : Nat, ((List.replicate k (cs x)).flatten).length = x.length * k := by
    intro k
    induction k with
    | zero => rfl
    | succ k ih => rw [List.replicate_succ, List.flatten_cons, List.length_append, ih, cs_len, Nat.mul_succ, Nat.add_comm]
  rw [← cs_len, cs_mul]
  exact e _
theorem op_rep_str {X : Cx} : OpR X (binaryOp .Mult) (fun x y H Q => ∃ (i : Str) (n : Int), x = .str i ∧ y = .int n ∧ i.length ≤ 16 ∧ -(2 ^ 62) ≤ n ∧ n ≤ 1048576 ∧ Q (.str (Txt.mul i n)) H) := by
  intro pins s σ H x y v u Q I rx ry h
  obtain ⟨i, n, rfl, rfl, hi, h0, h1, q⟩ := h
  obtain ⟨t, rfl⟩ := rx
  obtain ⟨t', rfl⟩ := ry
  exact SB.mul (mulOk_of 16 1048576 hi h1 (by omega) (by decide) (by decide)) fun t' tk => ⟨.str (Txt.mul i n), H, I.tok _, ⟨_, rfl⟩, q⟩
theorem cs_cut (z : Str) (lo hi : Option Int) : cs (cutS z lo hi) = ((cs z).drop (HT.sIx z.length 0 lo)).take (HT.sIx z.length z.length hi - HT.sIx z.length 0 lo) := rfl
theorem cs_upto (z : Str) (k : Nat) : cs (cutS z none (some (k : Int))) = (cs z).take k := by
  rw [cs_cut, HT.sIx_none, HT.sIx_nat, List.drop_zero, Nat.sub_zero, ← cs_len]
  by_cases h : k ≤ (cs z).length
  · rw [Nat.min_eq_left h]
  · rw [Nat.min_eq_right (by omega), List.take_of_length_le (Nat.le_refl _), List.take_of_length_le (by omega)]
theorem cs_from (z : Str) (k : Nat) : cs (cutS z (some (k : Int)) none) = (cs z).drop k := by
  rw [cs_cut, HT.sIx_none, HT.sIx_nat, ← cs_len]
  by_cases h : k ≤ (cs z).length
  · rw [Nat.min_eq_left h, List.take_of_length_le (by rw [List.length_drop]; omega)]
  · rw [Nat.min_eq_right (by omega), Nat.sub_self, List.take_zero, List.drop_eq_nil_of_le (by omega)]
theorem mem_cut {z : Str} {lo hi : Option Int} {c : Nat} (h : c ∈ cs (cutS z lo hi)) : c ∈ cs z := by
  rw [cs_cut] at h
  exact List.mem_of_mem_drop (List.mem_of_mem_take h)
theorem cut_len (z : Str) (lo hi : Option Int) : (cutS z lo hi).length ≤ z.length := cutS_length z lo hi
theorem join_nil : Txt.join (Str.ofString "") [] = Str.ofString "" := rfl
theorem cs_join0 : ∀ ys : List Str, cs (Txt.join (Str.ofString "") ys) = (ys.map cs).flatten
  | [] => cs_empty
  | [x] => by
    show cs x = ([x].map cs).flatten
    simp
  | x :: y :: r => by
    have e : Txt.join (Str.ofString "") (x :: y :: r) = x ++ Str.ofString "" ++ Txt.join (Str.ofString "") (y :: r) := by
      unfold Txt.join
      first
        | rfl
        | (rw [StrLaws.glued_eq_join, StrLaws.glued_eq_join]; rfl)
    rw [e, cs_app, cs_app, cs_empty, cs_join0 (y :: r)]
    simp
/-- the word's letters are letters of z -/
def Over (z w : Str) : Prop := ∀ c ∈ cs w, c ∈ cs z
theorem Over.app {z x y : Str} (h : Over z x) (k : Over z y) : Over z (x ++ y) := fun c m => by
  rw [cs_app] at m
  rcases List.mem_append.mp m with m | m
  · exact h c m
  · exact k c m
theorem Over.mul {z x : Str} {n : Int} (h : Over z x) : Over z (Txt.mul x n) := fun c m => h c (mem_mul m)
theorem Over.cut {z x : Str} {lo hi : Option Int} (h : Over z x) : Over z (cutS x lo hi) := fun c m => h c (mem_cut m)
theorem Over.one {z : Str} {c : Nat} (h : c ∈ cs z) : Over z ⟨#[c]⟩ := fun d m => by
  rw [cs_one] at m
  rw [List.mem_singleton.mp m]
  exact h
theorem Over.empty {z : Str} : Over z (Str.ofString "") := fun c m => by
  rw [cs_empty] at m
  exact absurd m List.not_mem_nil
theorem length_app (x y : Str) : (x ++ y).length = x.length + y.length := Str.length_append x y
theorem small_text {n : Nat} (h : n ≤ 1000000) : n ≤ sizeLine := Nat.le_trans h (by decide)
end Lb
namespace Lb
open PySem PySem.Spec PyProof.Rows L2
def abc : Str := Str.ofString "abcdefghijklmnopqrstuvwxyz"
theorem cs_abc : cs abc = List.range' 97 26 := by decide +kernel
theorem len_abc : abc.length = 26 := by decide +kernel
/-- one to four letters from a to z, ascending -/
structure IsAlpha (z : Str) : Prop where
  asc : (cs z).Pairwise (· < ·)
  low : ∀ c ∈ cs z, 97 ≤ c ∧ c ≤ 122
  len1 : 1 ≤ z.length
  len4 : z.length ≤ 4
theorem IsAlpha.small {z : Str} (h : IsAlpha z) : z.length ≤ 1000000 := Nat.le_trans h.len4 (by decide)
theorem IsAlpha.nodup {z : Str} (h : IsAlpha z) : (cs z).Nodup := h.asc.imp fun e => Nat.ne_of_lt e
theorem abc_asc : (cs abc).Pairwise (· < ·) := by
  rw [cs_abc]
  exact List.pairwise_lt_range'
theorem abc_low : ∀ c ∈ cs abc, 97 ≤ c ∧ c ≤ 122 := fun c h => by
  rw [cs_abc, List.mem_range'_1] at h
  omega
theorem abc_upto {k : Nat} (h1 : 1 ≤ k) (h4 : k ≤ 4) : IsAlpha (cutS abc none (some (k : Int))) where
  asc := by
    rw [cs_upto]
    exact abc_asc.sublist (List.take_sublist _ _)
  low := fun c h => abc_low c (mem_cut h)
  len1 := by
    rw [← cs_len, cs_upto, List.length_take, cs_len, len_abc]
    omega
  len4 := by
    rw [← cs_len, cs_upto, List.length_take, cs_len, len_abc]
    omega
theorem abc_from {k : Nat} (h1 : 22 ≤ k) (h4 : k ≤ 25) : IsAlpha (cutS abc (some (k : Int)) none) where
  asc := by
    rw [cs_from]
    exact abc_asc.sublist (List.drop_sublist _ _)
  low := fun c h => abc_low c (mem_cut h)
  len1 := by
    rw [← cs_len, cs_from, List.length_drop, cs_len, len_abc]
    omega
  len4 := by
    rw [← cs_len, cs_from, List.length_drop, cs_len, len_abc]
    omega
theorem starts_iff (x p : Str) : Txt.startswith x p = decide ((cs x).take p.length = cs p) := by
  unfold Txt.startswith
  rw [StrLaws.subAt_eq, List.drop_zero, Nat.zero_add]
  show (decide (p.length ≤ x.length) && ((cs x).take p.length == cs p)) = _
  by_cases h : (cs x).take p.length = cs p
  · have hl : p.length ≤ x.length := by
      rw [← cs_len, ← h, List.length_take, cs_len]
      omega
    rw [decide_eq_true hl, decide_eq_true h, beq_iff_eq.mpr h]
    rfl
  · rw [decide_eq_false h, beq_eq_false_iff_ne.mpr h, Bool.and_false]
end Lb

namespace Lb
open PySem PySem.Spec PyProof.Rows L2
/-! ### the text's tables of code objects; what stands while a def runs -/
/-- the tables of the text's defs that make generators or lambdas: where they are, and the name their code objects bear -/
class Tabl where
  T : List (Addr × Str)
  one : ∀ p ∈ T, ∀ q ∈ T, p.1 = q.1 → p.2 = q.2
abbrev Good [Tabl] (H : Hp) : Prop := LamX.Tabs Tabl.T H
/-- no table -/
abbrev NoT (o : HO) : Prop := ∀ ps, o ≠ .tbl ps
/-- a list, a dict, a set or an instance: what a def may change -/
def Mut : HO → Prop
  | .lst _ | .dK _ | .dT _ | .set _ _ | .ins _ _ _ => True
  | _ => False
theorem Mut.noT {o : HO} (h : Mut o) : NoT o := fun ps e => by
  rw [e] at h
  exact h
theorem tabS_upd {H : Hp} {P p : Addr} {q : Str} {o : HO} (t : LamX.TabS H P q) (h : H p = none ∨ ∃ u, H p = some u ∧ Mut u) : LamX.TabS (upd H p o) P q := by
  obtain ⟨ps, h1, h2, h3⟩ := t
  have ne : ∀ b u, H b = some u → ¬ Mut u → b ≠ p := fun b u e m z => by
    rw [z] at e
    rcases h with h | ⟨v, h, k⟩
    · rw [h] at e
      cases e
    · rw [h] at e
      rw [Option.some.inj e] at k
      exact m k
  refine ⟨ps, by rw [upd_ne (ne P _ h1 id)]; exact h1, h2, fun pos cv hc => ?_⟩
  obtain ⟨c, e1, e2⟩ := h3 pos cv hc
  exact ⟨c, e1, by rw [upd_ne (ne c _ e2 id)]; exact e2⟩
section
variable [Tabl]
/-- what stood stands; the tables may have grown -/
structure Same (H H' : Hp) : Prop where
  old : ∀ b o, H b = some o → (_ : NoT o := by intro _ z; cases z) → H' b = some o
  tab : ∀ b ps, H b = some (.tbl ps) → ∃ qs, H' b = some (.tbl qs)
  good : Good H → Good H'
instance {H H' : Hp} : CoeFun (Same H H') fun _ => ∀ b o, H b = some o → (_ : NoT o := by intro _ z; cases z) → H' b = some o := ⟨@Same.old _ H H'⟩
theorem Same.refl (H : Hp) : Same H H := ⟨fun _ _ h _ => h, fun _ ps h => ⟨ps, h⟩, id⟩
theorem Same.trans {H H1 H2 : Hp} (p : Same H H1) (q : Same H1 H2) : Same H H2 :=
  ⟨fun b o h n => q.old b o (p.old b o h n) n, fun b ps h => let ⟨qs, e⟩ := p.tab b ps h; q.tab b qs e, fun g => q.good (p.good g)⟩
theorem Same.free {H H' : Hp} {p : Addr} (s : Same H H') (n : H' p = none) : H p = none := by
  cases e : H p with
  | none => rfl
  | some o =>
    by_cases k : NoT o
    · rw [s.old _ _ e k] at n
      cases n
    · have ⟨ps, z⟩ : ∃ ps, o = .tbl ps := Classical.byContradiction fun c => k fun ps z => c ⟨ps, z⟩
      rw [z] at e
      obtain ⟨qs, e'⟩ := s.tab _ _ e
      rw [e'] at n
      cases n
theorem same_new {H : Hp} {p : Addr} {o : HO} (h : H p = none) : Same H (upd H p o) where
  old b x e _ := by
    rw [upd_ne (ne_of_none e h)]
    exact e
  tab b ps e := ⟨ps, by rw [upd_ne (ne_of_none e h)]; exact e⟩
  good g := fun t ht => tabS_upd (g t ht) (.inl h)
/-- all but the object at a stands -/
structure But (a : Addr) (H H' : Hp) : Prop where
  old : ∀ b o, b ≠ a → H b = some o → (_ : NoT o := by intro _ z; cases z) → H' b = some o
  tab : ∀ b ps, H b = some (.tbl ps) → ∃ qs, H' b = some (.tbl qs)
  good : Good H → Good H'
instance {a : Addr} {H H' : Hp} : CoeFun (But a H H') fun _ => ∀ b o, b ≠ a → H b = some o → (_ : NoT o := by intro _ z; cases z) → H' b = some o := ⟨@But.old _ a H H'⟩
theorem But.refl {a : Addr} (H : Hp) : But a H H := ⟨fun _ _ _ h _ => h, fun _ ps h => ⟨ps, h⟩, id⟩
theorem But.trans {a : Addr} {H H1 H2 : Hp} (p : But a H H1) (q : But a H1 H2) : But a H H2 :=
  ⟨fun b o n h k => q.old b o n (p.old b o n h k) k, fun b ps h => let ⟨qs, e⟩ := p.tab b ps h; q.tab b qs e, fun g => q.good (p.good g)⟩
theorem But.same {a : Addr} {H H' : Hp} (p : Same H H') : But a H H' := ⟨fun b o _ h k => p.old b o h k, p.tab, p.good⟩
theorem But.put {a : Addr} {H : Hp} {o u : HO} (h : H a = some u) (m : Mut u := by trivial) : But a H (upd H a o) where
  old b x n e _ := by
    rw [upd_ne n]
    exact e
  tab b ps e := ⟨ps, by
    rw [upd_ne (fun z => by rw [z, h] at e; rw [Option.some.inj e] at m; exact m)]
    exact e⟩
  good g := fun t ht => tabS_upd (g t ht) (.inr ⟨u, h, m⟩)
theorem But.new {a : Addr} {H : Hp} {p : Addr} {o : HO} (h : H p = none) : But a H (upd H p o) := But.same (same_new h)
theorem But.free {a p : Addr} {H H' : Hp} (s : But a H H') (n : H' p = none) (na : p ≠ a) : H p = none := by
  cases e : H p with
  | none => rfl
  | some o =>
    by_cases k : NoT o
    · rw [s.old _ _ na e k] at n
      cases n
    · have ⟨ps, z⟩ : ∃ ps, o = .tbl ps := Classical.byContradiction fun c => k fun ps z => c ⟨ps, z⟩
      rw [z] at e
      obtain ⟨qs, e'⟩ := s.tab _ _ e
      rw [e'] at n
      cases n
/-- a new object, changed since: what stood stands -/
theorem But.grown {a p : Addr} {H H1 H2 : Hp} {o u : HO} (b1 : But a H H1) (n : H1 p = none) (b2 : But a H H2) (h : H2 p = some u) (m : Mut u := by trivial) : But a H (upd H2 p o) where
  old b x hb e k := by
    rw [upd_ne (fun z => by rw [z] at e hb; rw [b1.old _ _ hb e k] at n; cases n)]
    exact b2.old b x hb e k
  tab b ps e := by
    obtain ⟨qs, e'⟩ := b2.tab b ps e
    exact ⟨qs, by rw [upd_ne (fun z => by rw [z, h] at e'; rw [Option.some.inj e'] at m; exact m)]; exact e'⟩
  good g := fun t ht => tabS_upd (b2.good g t ht) (.inr ⟨u, h, m⟩)
/-- a new object, made since and changed: what stood stands -/
theorem Same.grown {p : Addr} {H H1 H2 : Hp} {o u : HO} (b1 : Same H H1) (n : H1 p = none) (b2 : Same H H2) (h : H2 p = some u) (m : Mut u := by trivial) : Same H (upd H2 p o) where
  old b x e k := by
    rw [upd_ne (fun z => by rw [z] at e; rw [b1.old _ _ e k] at n; cases n)]
    exact b2.old b x e k
  tab b ps e := by
    obtain ⟨qs, e'⟩ := b2.tab b ps e
    exact ⟨qs, by rw [upd_ne (fun z => by rw [z, h] at e'; rw [Option.some.inj e'] at m; exact m)]; exact e'⟩
  good g := fun t ht => tabS_upd (b2.good g t ht) (.inr ⟨u, h, m⟩)
/-- a table has grown by a new code object of the name that it bears -/
theorem same_code {H : Hp} {P c : Addr} {q : Str} {ps : Array Value} {pos : Pos} (tab : H P = some (.tbl ps)) (tri : TriplesOk ps.toList) (bears : ∀ (pos : Pos) (cv : Value), codeAmong pos ps.toList = some cv → ∃ c, cv = .ref c ∧ H c = some (LamX.CodeO c q)) (nC : H c = none) (hm : (P, q) ∈ Tabl.T) :
    Same H (upd (upd H P (.tbl (ps ++ #[rawInt pos.line, rawInt pos.col, .ref c]))) c (LamX.CodeO c q)) := by
  have keep : ∀ b o, H b = some o → NoT o → upd (upd H P (.tbl (ps ++ #[rawInt pos.line, rawInt pos.col, .ref c]))) c (LamX.CodeO c q) b = some o := fun b o e n => by
    rw [upd_ne (ne_of_none e nC), upd_ne (fun z => n ps (Option.some.inj (e.symm.trans (by rw [z]; exact tab))))]
    exact e
  have list : (ps ++ #[rawInt pos.line, rawInt pos.col, Value.ref c]).toList = ps.toList ++ [rawInt pos.line, rawInt pos.col, .ref c] := by simp
  refine ⟨keep, fun b qs e => ?_, fun g p hp => ?_⟩
  · by_cases z : b = P
    · exact ⟨_, by rw [z, upd_ne (ne_of_none tab nC), upd_same]⟩
    · exact ⟨qs, by rw [upd_ne (ne_of_none e nC), upd_ne z]; exact e⟩
  · by_cases z : p.1 = P
    · have e2 : p.2 = q := Tabl.one _ hp _ hm z
      rw [z, e2]
      refine ⟨_, by rw [upd_ne (ne_of_none tab nC), upd_same], by rw [list]; exact PySem.TriplesOk_snoc _ _ _ _ tri, fun p' cv h => ?_⟩
      rw [list] at h
      rcases LamX.among_app _ tri h with k | k
      · obtain ⟨c0, e1, e2⟩ := bears p' cv k
        exact ⟨c0, e1, keep _ _ e2 LamX.codeO_ne⟩
      · exact ⟨c, k, upd_same⟩
    · obtain ⟨qs, a1, a2, a3⟩ := g p hp
      refine ⟨qs, by rw [upd_ne (ne_of_none a1 nC), upd_ne z]; exact a1, a2, fun p' cv h => ?_⟩
      obtain ⟨c0, e1, e2⟩ := a3 p' cv h
      exact ⟨c0, e1, keep _ _ e2 LamX.codeO_ne⟩
end
end Lb

namespace Lb
open PySem PySem.Spec PyProof.Rows L2
/-- the tables of the text's defs are empty when the law is called -/
def Empty (names : List Str) (K : PySem.W.Frag) (mg : Str → Option Value) (h : Heap) : Prop :=
  ∀ (x : Str) (f c P : Addr) (o : Obj) (fd : FuncData) (e : Value) (dd : Option Addr) (vs : Array Value) (sl : Array (Option Value)), x ∈ names → mg x = some (.ref f) → K.lookup f = some o → o.data = .func fd → fd.code = .ref c →
    K.lookup c = some ⟨e, dd, .fields vs, sl⟩ → vs[11]? = some (.ref P) → h.get? P = some { cls := .none, data := .fields #[] }
/-- the law: called with at most 63 ints it answers True -/
def sp_law [Tabl] (K : PySem.W.Frag) : Sp := fun vs H Q _ => ∃ (a : Addr) (ns : List Int), vs = [.ref a] ∧ SqL K H a (ns.map V.int) ∧ ns.length ≤ 63 ∧ Good H ∧ ∀ H', Q (.bl true) H'
theorem walk_tabs {l : PySem.W.OpenLaw} {n k : Nat} {q : Program} {loose : List Str} {XP : (Str → Option Value) → Heap → Prop} {YP : World → Heap → Prop} {d : DefRec} {K : Params → PySem.W.Frag} {CX : World → CXT} {x : Str} (most : l.most = some n) (small : n ≤ sizeLine) (plain : d.params.defaults = []) (room : Room k callerA)
    (inK : ∀ (w : World) (h : Heap), YP w h → (K w.params).In h) (F : ∀ (w : World) (mg : Str → Option Value) (fa : Addr) (h : Heap), (K w.params).In h → h.Ns mainGlobals mg → mg d.name = some (.ref fa) → Empty ((recsOf q).map (·.name)) (K w.params) mg h → LamX.LawAtS l w (K w.params) (CX w) k n x mg fa h)
    (none_out : ∀ (w : World) (H : Hp) (s : Shared) (e : Value) (s' : Shared), ¬ CX w [] H s (fun _ _ _ => False) e s') : PySem.W.WalkO q loose XP YP l.row.toRowW d [] (fun f vs => PySem.call f vs) := by
  refine Att.attach_callB most plain fun w s0 s mg mb fa o pm cd doc a vs ns G Y ho hd hcd global obj its len bits gens => ?_
  have KX := inK w _ Y
  have E : Empty ((recsOf q).map (·.name)) (K w.params) mg s.heap := fun y f c P o1 fd1 e dd vs1 sl hy k1 k2 k3 k4 k5 k6 => by
    obtain ⟨r, hr, er⟩ := List.mem_map.mp hy
    obtain ⟨_, _, _, _, _, t1, t2, t3, t4, t5, ⟨oc, vc, u1, _, u3, u4⟩, t6⟩ := G.T.tab r hr
    rw [show r.name = y from er, k1] at t1
    cases t1
    cases (KX _ _ k2).symm.trans t2
    cases k3.symm.trans t3
    cases k4.symm.trans t4
    cases (KX _ _ k5).symm.trans u1
    cases u3
    cases k6.symm.trans u4
    exact t6
  obtain ⟨fd, cs, sp, c1, c2, c3, c4, c5, c6⟩ := F w mg fa _ KX G.T.g global E
  exact LamX.law_callTs KX G.T.g G.T.b G.T.builtins G.T.nolimit gens c1 c2 c3 G.T.bmain obj its (Nat.le_trans len small) room c6 c4 (fun H e hS => c5 H a ns len bits e hS) fun H e s' z => none_out w H s e s' z
end Lb

namespace Lb
open PySem PySem.Spec PyProof.Rows L2
/-! ### plain values by their outermost kind -/
def NoTxt (H : Hp) (v : V) : Prop := v = .non ∨ (∃ b, v = .bl b) ∨ (∃ i, v = .int i) ∨ ∃ p xs, v = .ref p ∧ (H p = some (.lst xs) ∨ H p = some (.tup xs))
def Shal (H : Hp) (v : V) : Prop := (∃ x : Str, v = .str x ∧ x.length ≤ 1000000) ∨ NoTxt H v
theorem NoTxt.same [Tabl] {H H' : Hp} {v : V} (h : NoTxt H v) (s : Same H H') : NoTxt H' v := by
  rcases h with h | h | h | ⟨p, xs, e, h⟩
  · exact .inl h
  · exact .inr (.inl h)
  · exact .inr (.inr (.inl h))
  · exact .inr (.inr (.inr ⟨p, xs, e, h.elim (fun q => .inl (s _ _ q)) fun q => .inr (s _ _ q)⟩))
theorem Shal.same [Tabl] {H H' : Hp} {v : V} (h : Shal H v) (s : Same H H') : Shal H' v := h.elim .inl fun q => .inr (q.same s)
theorem shal_str {H : Hp} {x : Str} (h : x.length ≤ 1000000) : Shal H (.str x) := .inl ⟨x, rfl, h⟩
theorem shal_int {H : Hp} {i : Int} : Shal H (.int i) := .inr (.inr (.inr (.inl ⟨i, rfl⟩)))
theorem noTxt_str {H : Hp} {x : Str} (h : NoTxt H (.str x)) : False := by
  rcases h with h | ⟨b, h⟩ | ⟨i, h⟩ | ⟨p, xs, h, _⟩ <;> cases h
def isStr : V → Bool
  | .str _ => true
  | _ => false
def isInt : V → Bool
  | .int _ => true
  | _ => false
def isBl : V → Bool
  | .bl _ => true
  | _ => false
/-- isinstance(v, str) -/
theorem isi_str {K : PySem.W.Frag} {H : Hp} {v : V} (h : Shal H v) : ∃ t : Value, TyX K H v t ∧ PySem.W.kitOne K t (.type "str") = some (isStr v) := by
  rcases h with ⟨x, rfl, _⟩ | rfl | ⟨b, rfl⟩ | ⟨i, rfl⟩ | ⟨p, xs, rfl, h | h⟩
  · exact ⟨_, .base (.str x), kit_ty (show kitB "str" "str" = some true by decide +kernel)⟩
  · exact ⟨_, .base .non, kit_ty (show kitB "NoneType" "str" = some false by decide +kernel)⟩
  · exact ⟨_, .base (.bl b), kit_ty (show kitB "bool" "str" = some false by decide +kernel)⟩
  · exact ⟨_, .base (.int i), kit_ty (show kitB "int" "str" = some false by decide +kernel)⟩
  · exact ⟨_, .base (.lst h), kit_ty (show kitB "list" "str" = some false by decide +kernel)⟩
  · exact ⟨_, .base (.tup h), kit_ty (show kitB "tuple" "str" = some false by decide +kernel)⟩
/-- isinstance(v, int) -/
theorem isi_int {K : PySem.W.Frag} {H : Hp} {v : V} (h : Shal H v) : ∃ t : Value, TyX K H v t ∧ PySem.W.kitOne K t (.type "int") = some (isInt v || isBl v) := by
  rcases h with ⟨x, rfl, _⟩ | rfl | ⟨b, rfl⟩ | ⟨i, rfl⟩ | ⟨p, xs, rfl, h | h⟩
  · exact ⟨_, .base (.str x), kit_ty (show kitB "str" "int" = some false by decide +kernel)⟩
  · exact ⟨_, .base .non, kit_ty (show kitB "NoneType" "int" = some false by decide +kernel)⟩
  · exact ⟨_, .base (.bl b), kit_ty (show kitB "bool" "int" = some true by decide +kernel)⟩
  · exact ⟨_, .base (.int i), kit_ty (show kitB "int" "int" = some true by decide +kernel)⟩
  · exact ⟨_, .base (.lst h), kit_ty (show kitB "list" "int" = some false by decide +kernel)⟩
  · exact ⟨_, .base (.tup h), kit_ty (show kitB "tuple" "int" = some false by decide +kernel)⟩
/-- isinstance(v, bool) -/
theorem isi_bool {K : PySem.W.Frag} {H : Hp} {v : V} (h : Shal H v) : ∃ t : Value, TyX K H v t ∧ PySem.W.kitOne K t (.type "bool") = some (isBl v) := by
  rcases h with ⟨x, rfl, _⟩ | rfl | ⟨b, rfl⟩ | ⟨i, rfl⟩ | ⟨p, xs, rfl, h | h⟩
  · exact ⟨_, .base (.str x), kit_ty (show kitB "str" "bool" = some false by decide +kernel)⟩
  · exact ⟨_, .base .non, kit_ty (show kitB "NoneType" "bool" = some false by decide +kernel)⟩
  · exact ⟨_, .base (.bl b), kit_ty (show kitB "bool" "bool" = some true by decide +kernel)⟩
  · exact ⟨_, .base (.int i), kit_ty (show kitB "int" "bool" = some false by decide +kernel)⟩
  · exact ⟨_, .base (.lst h), kit_ty (show kitB "list" "bool" = some false by decide +kernel)⟩
  · exact ⟨_, .base (.tup h), kit_ty (show kitB "tuple" "bool" = some false by decide +kernel)⟩
theorem isStr_of {v : V} (h : isStr v = true) : ∃ x, v = .str x := by
  cases v <;> first | exact ⟨_, rfl⟩ | cases h
theorem isInt_of {v : V} (h : isInt v = true) : ∃ x, v = .int x := by
  cases v <;> first | exact ⟨_, rfl⟩ | cases h
theorem Shal.text {H : Hp} {x : Str} (h : Shal H (.str x)) : x.length ≤ 1000000 := by
  rcases h with ⟨y, e, l⟩ | h
  · cases e
    exact l
  · exact (noTxt_str h).elim
end Lb

namespace L2
open PySem PySem.Spec PyProof.Rows
/-! zip of two texts, walked by a for: the pairs of their signs, as many as the shorter one has -/
def Itzs (x y : Str) : It :=
  ⟨fun i _ => i < x.cps.size ∧ i < y.cps.size,
    fun i H v H' => ∃ T c d, v = .ref T ∧ H T = none ∧ x.cps[i]? = some c ∧ y.cps[i]? = some d ∧ H' = upd H T (.tup [.str ⟨#[c]⟩, .str ⟨#[d]⟩]),
    fun i _ => i ≤ x.cps.size ∧ i ≤ y.cps.size ∧ (i = x.cps.size ∨ i = y.cps.size)⟩
theorem turn_zipS {P : Program} {w : World} {K : PySem.W.Frag} {elts : List Expr} {kk : Nat} {tpos : Pos} {x y : Str} {t1 t2 : Tok} {z TI TO i1 i2 : Addr} (D : ZipSep2 z TI TO i1 i2 [i1] [i2]) :
    Turn P w K (.Tuple elts kk tpos) (Itzs x y) [z, TI, TO, i1, i2] z (fun i h => IsZip h z TI TO .none ∧ IsPair h TI (.ref i1) (.ref i2) ∧ (∃ a b, IsPair h TO a b) ∧ h.IsStrIter i1 (strIterType x) x t1 i ∧ h.IsStrIter i2 (strIterType y) y t2 i) where
  mem := by simp
  obj := fun i h st c hc => by
    obtain ⟨hz, hTI, ⟨a, b, hTO⟩, ⟨o1, e1, _, d1⟩, ⟨o2, e2, _, d2⟩⟩ := st
    have e' : c = z ∨ c = TI ∨ c = TO ∨ c = i1 ∨ c = i2 := by simpa using hc
    rcases e' with q | q | q | q | q
    · rw [q]; exact ⟨_, hz, fun v q => nomatch q⟩
    · rw [q]; exact ⟨_, hTI, fun v q => nomatch q⟩
    · rw [q]; exact ⟨_, hTO, fun v q => nomatch q⟩
    · rw [q]; exact ⟨o1, e1, fun v q => by rw [d1] at q; cases q⟩
    · rw [q]; exact ⟨o2, e2, fun v q => by rw [d2] at q; cases q⟩
  keep := fun i h h' st k => by
    obtain ⟨hz, hTI, ⟨a, b, hTO⟩, ⟨o1, e1, r1⟩, ⟨o2, e2, r2⟩⟩ := st
    exact ⟨k z (by simp) _ hz, k TI (by simp) _ hTI, ⟨a, b, k TO (by simp) _ hTO⟩, ⟨o1, k i1 (by simp) _ e1, r1⟩, ⟨o2, k i2 (by simp) _ e2, r2⟩⟩
  item := by
    intro X hP hw hK hc i pins s σ H E I hf st hg
    subst hP hw hK
    obtain ⟨hz, hTI, ⟨x0, y0, hTO⟩, h1, h2⟩ := st
    have hzl : z < s.heap.objs.size := Heap.lt_size hz
    have hh : X.A.in1.handled = none := I.ok.hd hc
    refine wpAny_pyNext_zipD2_item D (Draws.text hh i1 x t1) (Draws.text hh i2 y t2) hz hTI hTO h1 h2 hg.1 hg.2 fun v1 v2 h' tk hv1 hv2 z' TO' h1' h2' hT hsz hk => ?_
    obtain ⟨c, u, hc1, rfl⟩ := hv1
    obtain ⟨d, u', hd1, rfl⟩ := hv2
    refine ⟨_, rfl, wpAny_letOwnedTupleGo_zip (s := { s with heap := h', toks := tk }) z' fun h'' z'' sb => ?_⟩
    have hT2 : h''.get? s.heap.objs.size = some { cls := .type "tuple", data := .seq #[.str ⟨#[c]⟩ u, .str ⟨#[d]⟩ u'] } := (sb.2 _ (Nat.ne_of_gt hzl)).trans hT
    have new : ObjOk X.prog X.w (upd H s.heap.objs.size (.tup [.str ⟨#[c]⟩, .str ⟨#[d]⟩])) h'' s.heap.objs.size (.tup [.str ⟨#[c]⟩, .str ⟨#[d]⟩]) :=
      ⟨by show 2 ≤ sizeLine; decide, [.str ⟨#[c]⟩ u, .str ⟨#[d]⟩ u'], .cons ⟨_, rfl⟩ (.cons ⟨_, rfl⟩ .nil), ⟨_, hT2, rfl, _, rfl⟩⟩
    have I1 : Inv X pins σ (upd H s.heap.objs.size (.tup [.str ⟨#[c]⟩, .str ⟨#[d]⟩])) { s with heap := h'', toks := tk } :=
      I.turnedNew (t' := tk) (ch := [z, TI, TO, i1, i2]) (fun c o hb q => (sb.2 c (fun q' => hb (by simp [q']))).trans (hk c o (fun q' => hb (by simp [q'])) (fun q' => hb (by simp [q'])) (fun q' => hb (by simp [q'])) (fun q' => hb (by simp [q'])) q)) hf (Nat.le_refl _) new
    have g1 : i1 ≠ z := fun e => D.zi1 e.symm
    have g2 : i2 ≠ z := fun e => D.zi2 e.symm
    obtain ⟨o1, e1, r1⟩ := h1'
    obtain ⟨o2, e2, r2⟩ := h2'
    obtain ⟨p1, f1, _⟩ := h1
    obtain ⟨p2, f2, _⟩ := h2
    refine ⟨.ref s.heap.objs.size, _, I1, rfl, ⟨_, c, d, rfl, I.hok.fresh (Nat.le_refl _), hc1, hd1, rfl⟩, ⟨z'', ?_, ⟨_, _, (sb.2 _ D.TOz).trans TO'⟩, ⟨o1, (sb.2 _ g1).trans e1, r1⟩, ⟨o2, (sb.2 _ g2).trans e2, r2⟩⟩, fun c hcm => ?_⟩
    · exact (sb.2 _ D.TIz).trans (hk _ _ D.TIz D.TITO D.TIi1 D.TIi2 hTI)
    · have hlt : c < s.heap.objs.size := by
        have e' : c = z ∨ c = TI ∨ c = TO ∨ c = i1 ∨ c = i2 := by simpa using hcm
        rcases e' with q | q | q | q | q
        · rw [q]; exact hzl
        · rw [q]; exact Heap.lt_size hTI
        · rw [q]; exact Heap.lt_size hTO
        · rw [q]; exact Heap.lt_size f1
        · rw [q]; exact Heap.lt_size f2
      rw [upd_ne (Nat.ne_of_lt hlt)]
      exact (hf c hcm).1
  done := by
    intro X hP hw hK hc i pins s σ H E I hf st hg
    subst hP hw hK
    obtain ⟨hz, hTI, ⟨x0, y0, hTO⟩, h1, h2⟩ := st
    have hh : X.A.in1.handled = none := I.ok.hd hc
    exact wpAny_pyNext_zipD2_end D (Draws.text hh i1 x t1) (Draws.text hh i2 y t2) hz hTI hTO h1 h2 hg.1 hg.2.1 hg.2.2 fun h' tk hk => ⟨rfl, I.turnedL (t' := tk) (ch := [z, TI, TO, i1, i2]) (fun c o hb q =>
      hk c o (fun q' => hb (by simp [q'])) (fun q' => hb (by simp [q'])) (fun q' => hb (by simp [q'])) (fun q' => hb (by simp [q'])) q) hf⟩
  self := fun A i s Q E st h => wpAny_pyIter_zip st.1 h
def iZipS (ta : TA) : TI := fun σ H R => ta σ H fun vs H1 => ∃ x y, vs = [.str x, .str y] ∧ R (Itzs x y) H1
theorem pi_zipS {X : Cx} {e e2 : Expr} {ta : TA} {p pos tpos : Pos} {elts : List Expr} {kk : Nat} (hg : Gl X "zip") (hm : X.mg "zip" = none) (ha : PA X [e, e2] ta)
    (hs : starEach [e, e2] X.env = (false, eval e X.env) :: starEach [e2] X.env := by rfl) (hpl : (backTo pos (starEach [e2] X.env)).any (·.1) = false := by rfl) :
    PI X (.Tuple elts kk tpos) (.Call (.Name "zip" p) [e, e2] [] pos) (iZipS ta) := by
  refine ⟨fun pins s σ H R I h => ?_⟩
  refine Call_ (ld_blt I hg hm PyProof.Rows.boot_zip (PyProof.Rows.callWith_type1 (thn (ha.run pos pins s σ H _ I h) fun us s1 ⟨vs, H1, I1, r1, q1⟩ => ?_) hs hpl))
  obtain ⟨x, y, ex, q⟩ := q1
  subst ex
  cases r1 with
  | cons r rr =>
    cases rr with
    | cons r' rr =>
      cases rr
      obtain ⟨t1, rfl⟩ := r
      obtain ⟨t2, rfl⟩ := r'
      refine zip_begins2 (begins_text x t1) (begins_text y t2) trivial trivial fun h' hz hTI hTO h1 h2 hsz hk => wpAny_pyIter_zip hz ?_
      have I2 : Inv X pins σ H1 { s1 with heap := h' } := I1.kept (t' := s1.toks) hk
      have D : ZipSep2 (s1.heap.objs.size + 4) (s1.heap.objs.size + 2) (s1.heap.objs.size + 3) s1.heap.objs.size (s1.heap.objs.size + 1) [s1.heap.objs.size] [s1.heap.objs.size + 1] := by
        constructor <;> simp <;> omega
      refine ⟨s1.heap.objs.size + 4, [s1.heap.objs.size + 4, s1.heap.objs.size + 2, s1.heap.objs.size + 3, s1.heap.objs.size, s1.heap.objs.size + 1], _, _, H1, rfl, I2, turn_zipS (t1 := t1) (t2 := t2) D, ⟨hz, hTI, ⟨_, _, hTO⟩, ⟨_, h1, rfl, rfl⟩, ⟨_, h2, rfl, rfl⟩⟩, fun c hcm => ?_, q⟩
      have e' : c = s1.heap.objs.size + 4 ∨ c = s1.heap.objs.size + 2 ∨ c = s1.heap.objs.size + 3 ∨ c = s1.heap.objs.size ∨ c = s1.heap.objs.size + 1 := by simpa using hcm
      have hle : s1.heap.objs.size ≤ c := by
        rcases e' with z | z | z | z | z <;> rw [z] <;> omega
      exact I1.fpOk hle (I1.hok.fresh hle)
end L2
namespace L2
open PySem PySem.Spec PyProof.Rows
theorem for_zipS {x y : Str} {g : TG} {tb : TS} {D : Ends} {σ : St} {H : Hp} (Pv : Nat → St → Hp → Prop) (h0 : Pv 0 σ H)
    (hs : ∀ (i c d : Nat) (T : Addr) (σ : St) (H : Hp), x.cps.toList[i]? = some c → y.cps.toList[i]? = some d → Pv i σ H → H T = none → g (.ref T) σ (upd H T (.tup [.str ⟨#[c]⟩, .str ⟨#[d]⟩])) fun σ2 H2 => tb { D with nx := Pv (i + 1), ct := Pv (i + 1), bk := D.nx } σ2 H2)
    (hd : ∀ σ H, Pv (min x.cps.toList.length y.cps.toList.length) σ H → D.nx σ H) :
    ∃ W : Nat → Nat → St → Hp → Prop, (∃ m, W 0 m σ H) ∧ ∀ i m σ H, W i m σ H →
      ((Itzs x y).stop i H ∧ D.nx σ H) ∨ ((Itzs x y).go i H ∧ ∃ N : St → Hp → Prop, (∀ σ' H', N σ' H' → ∃ m', m' < m ∧ W (i + 1) m' σ' H') ∧ ∀ v H', (Itzs x y).yld i H v H' → g v σ H' fun σ2 H2 => tb { D with nx := N, ct := N, bk := D.nx } σ2 H2) := by
  have lx : x.cps.toList.length = x.cps.size := Array.length_toList
  have ly : y.cps.toList.length = y.cps.size := Array.length_toList
  refine ⟨fun i m σ H => m = min x.cps.size y.cps.size - i ∧ i ≤ min x.cps.size y.cps.size ∧ Pv i σ H, ⟨_, rfl, Nat.zero_le _, h0⟩, ?_⟩
  rintro i m σ H ⟨rfl, hi, p⟩
  by_cases hlt : i < min x.cps.size y.cps.size
  · refine .inr ⟨⟨by omega, by omega⟩, Pv (i + 1), fun σ' H' p' => ⟨min x.cps.size y.cps.size - (i + 1), by omega, rfl, hlt, p'⟩, fun v H' yl => ?_⟩
    obtain ⟨T, c, d, rfl, nT, hc, hd, rfl⟩ := yl
    exact hs i c d T σ H (by rw [Array.getElem?_toList]; exact hc) (by rw [Array.getElem?_toList]; exact hd) p nT
  · have e : i = min x.cps.size y.cps.size := by omega
    refine .inl ⟨⟨by omega, by omega, by omega⟩, hd σ H ?_⟩
    rw [lx, ly, ← e]
    exact p
end L2

namespace Lb
/-! ### lags -/
def lcp : List Nat → List Nat → Nat
  | a :: x, b :: y => if a = b then lcp x y + 1 else 0
  | _, _ => 0
def IsLag (a b u v : List Nat) : Prop := ∃ f, a = f ++ u ∧ b = f ++ v ∧ (u = [] ∨ v = [] ∨ u.head? ≠ v.head?)
theorem lcp_le : ∀ x y : List Nat, lcp x y ≤ x.length ∧ lcp x y ≤ y.length
  | [], _ => ⟨Nat.le_refl _, Nat.zero_le _⟩
  | _ :: _, [] => ⟨Nat.zero_le _, Nat.le_refl _⟩
  | a :: x, b :: y => by
    unfold lcp
    have ih := lcp_le x y
    by_cases h : a = b
    · rw [if_pos h, List.length_cons, List.length_cons]
      omega
    · rw [if_neg h]
      exact ⟨Nat.zero_le _, Nat.zero_le _⟩
theorem lcp_lag : ∀ x y : List Nat, IsLag x y (x.drop (lcp x y)) (y.drop (lcp x y))
  | [], y => ⟨[], rfl, rfl, .inl rfl⟩
  | a :: x, [] => ⟨[], rfl, rfl, .inr (.inl rfl)⟩
  | a :: x, b :: y => by
    unfold lcp
    by_cases h : a = b
    · subst h
      rw [if_pos rfl]
      obtain ⟨f, e1, e2, e3⟩ := lcp_lag x y
      exact ⟨a :: f, congrArg (a :: ·) e1, congrArg (a :: ·) e2, e3⟩
    · rw [if_neg h]
      exact ⟨[], rfl, rfl, .inr (.inr fun e => h (Option.some.inj e))⟩
theorem IsLag.uniq {a b u v u' v' : List Nat} (h : IsLag a b u v) (k : IsLag a b u' v') : u = u' ∧ v = v' := by
  obtain ⟨f, e1, e2, e3⟩ := h
  obtain ⟨g, d1, d2, d3⟩ := k
  subst e1
  subst e2
  induction f generalizing g with
  | nil =>
    cases g with
    | nil => exact ⟨d1, d2⟩
    | cons c g =>
      have d1' : u = c :: (g ++ u') := d1
      have d2' : v = c :: (g ++ v') := d2
      subst d1'
      subst d2'
      rcases e3 with e | e | e
      · cases e
      · cases e
      · exact absurd rfl e
  | cons c f ih =>
    cases g with
    | nil =>
      have d1' : c :: (f ++ u) = u' := d1
      have d2' : c :: (f ++ v) = v' := d2
      subst d1'
      subst d2'
      rcases d3 with e | e | e
      · cases e
      · cases e
      · exact absurd rfl e
    | cons d g =>
      have x1 : c :: (f ++ u) = d :: (g ++ u') := d1
      have x2 : c :: (f ++ v) = d :: (g ++ v') := d2
      exact ih g (List.cons.inj x1).2 (List.cons.inj x2).2
theorem IsLag.swap {a b u v : List Nat} (h : IsLag a b u v) : IsLag b a v u := by
  obtain ⟨f, e1, e2, e3⟩ := h
  refine ⟨f, e2, e1, ?_⟩
  rcases e3 with e | e | e
  · exact .inr (.inl e)
  · exact .inl e
  · exact .inr (.inr fun z => e z.symm)
/-- moved on -/
theorem IsLag.more {a b u v x y u' v' : List Nat} (h : IsLag a b u v) (k : IsLag (u ++ x) (v ++ y) u' v') : IsLag (a ++ x) (b ++ y) u' v' := by
  obtain ⟨f, e1, e2, e3⟩ := h
  obtain ⟨g, d1, d2, d3⟩ := k
  refine ⟨f ++ g, ?_, ?_, d3⟩
  · rw [e1, List.append_assoc, d1, List.append_assoc]
  · rw [e2, List.append_assoc, d2, List.append_assoc]
theorem IsLag.front {a b u v : List Nat} (c : List Nat) (h : IsLag a b u v) : IsLag (c ++ a) (c ++ b) u v := by
  obtain ⟨f, e1, e2, e3⟩ := h
  exact ⟨c ++ f, by rw [e1, List.append_assoc], by rw [e2, List.append_assoc], e3⟩
theorem IsLag.idem {a b u v : List Nat} (h : IsLag a b u v) : IsLag u v u v := by
  obtain ⟨f, e1, e2, e3⟩ := h
  exact ⟨[], rfl, rfl, e3⟩
theorem IsLag.le {a b u v : List Nat} (h : IsLag a b u v) : u.length ≤ a.length ∧ v.length ≤ b.length := by
  obtain ⟨f, e1, e2, e3⟩ := h
  rw [e1, e2, List.length_append, List.length_append]
  omega
theorem lcp_step {x y : List Nat} {i : Nat} {c d : Nat} (h : x.take i = y.take i) (hc : x[i]? = some c) (hd : y[i]? = some d) : (c = d → x.take (i + 1) = y.take (i + 1)) ∧ (c ≠ d → lcp x y = i) := by
  refine ⟨fun e => ?_, fun n => ?_⟩
  · subst e
    rw [List.take_add_one, List.take_add_one, h, hc, hd]
  · induction i generalizing x y with
    | zero =>
      cases x with
      | nil => cases hc
      | cons a x =>
        cases y with
        | nil => cases hd
        | cons b y =>
          have e1 : a = c := Option.some.inj hc
          have e2 : b = d := Option.some.inj hd
          unfold lcp
          rw [e1, e2, if_neg n]
    | succ i ih =>
      cases x with
      | nil => cases hc
      | cons a x =>
        cases y with
        | nil => cases hd
        | cons b y =>
          have e : a :: x.take i = b :: y.take i := h
          unfold lcp
          rw [if_pos (List.cons.inj e).1, ih (List.cons.inj e).2 hc hd]
theorem lcp_all {x y : List Nat} (h : x.take (min x.length y.length) = y.take (min x.length y.length)) : lcp x y = min x.length y.length := by
  induction x generalizing y with
  | nil =>
    show 0 = _
    rw [List.length_nil, Nat.zero_min]
  | cons a x ih =>
    cases y with
    | nil => rfl
    | cons b y =>
      rw [List.length_cons, List.length_cons, Nat.succ_min_succ] at *
      have e : a :: x.take (min x.length y.length) = b :: y.take (min x.length y.length) := h
      unfold lcp
      rw [if_pos (List.cons.inj e).1, ih (List.cons.inj e).2]
end Lb

namespace Lb
open PySem PySem.Spec PyProof.Rows L2
/-! ### the store that the draws come from -/
/-- the draws' store at a, its cells at c -/
def Sto (H : Hp) (a c : Addr) : Prop := ∃ (ns : List Int) (i b t s : Int), H a = some (.lst [.ref c, .int i, .int b, .int t, .int s]) ∧ H c = some (.lst (ns.map V.int)) ∧ 0 ≤ i ∧ c ≠ a
theorem Sto.to {H H' : Hp} {a c : Addr} (h : Sto H a c) (e1 : H' a = H a) (e2 : H' c = H c) : Sto H' a c := by
  obtain ⟨ns, i, b, t, s, h1, h2, h3, h4⟩ := h
  exact ⟨ns, i, b, t, s, e1.trans h1, e2.trans h2, h3, h4⟩
theorem Sto.same [Tabl] {H H' : Hp} {a c : Addr} (h : Sto H a c) (e : Same H H') : Sto H' a c := by
  obtain ⟨ns, i, b, t, s, h1, h2, h3, h4⟩ := h
  exact ⟨ns, i, b, t, s, e _ _ h1, e _ _ h2, h3, h4⟩
theorem Sto.new {H : Hp} {a c p : Addr} {o : HO} (h : Sto H a c) (e : H p = none) : Sto (upd H p o) a c := by
  obtain ⟨ns, i, b, t, s, h1, h2, h3, h4⟩ := h
  exact ⟨ns, i, b, t, s, by rw [upd_ne (ne_of_none h1 e)]; exact h1, by rw [upd_ne (ne_of_none h2 e)]; exact h2, h3, h4⟩
theorem Sto.ne {H : Hp} {a c p : Addr} (h : Sto H a c) (e : H p = none) : p ≠ a ∧ p ≠ c := by
  obtain ⟨ns, i, b, t, s, h1, h2, h3, h4⟩ := h
  exact ⟨fun z => (by rw [z, h1] at e; cases e), fun z => (by rw [z, h2] at e; cases e)⟩
theorem Sto.put {H : Hp} {a c p : Addr} {o : HO} (h : Sto H a c) (n : p ≠ a ∧ p ≠ c) : Sto (upd H p o) a c :=
  h.to (upd_ne (Ne.symm n.1)) (upd_ne (Ne.symm n.2))
theorem ints_at {ns : List Int} {i : Int} (h0 : 0 ≤ i) (h1 : i < ((ns.map V.int).length : Nat)) : ∃ n, atI (ns.map V.int) i = some (.int n) := by
  obtain ⟨j, rfl⟩ := Int.eq_ofNat_of_zero_le h0
  have hj : j < ns.length := by
    rw [List.length_map] at h1
    exact Int.ofNat_lt.mp h1
  exact ⟨ns[j], atI_nat (by rw [List.getElem?_map, List.getElem?_eq_getElem hj]; rfl)⟩
theorem ne1 {P : Prop} [Decidable P] (h : P) : decide P = true := decide_eq_true h
theorem ne0 {P : Prop} [Decidable P] (h : ¬ P) : decide P = false := decide_eq_false h
theorem iteC {c : Bool} {A B : Prop} (h : c = true) (a : A) : if c = true then A else B := by
  rw [if_pos h]
  exact a
theorem iteN {c : Bool} {A B : Prop} (h : c = false) (b : B) : if c = true then A else B := by
  rw [h]
  exact iteF b
/-- a row that is not come to -/
theorem ps_dead {X : Cx} {s : Stmt} : PS X s (fun _ _ _ => False) := ⟨fun _ _ _ _ _ _ h => h.elim⟩
end Lb

namespace L2
open PySem PySem.Spec PyProof.Rows
theorem pip_of {X : Cx} {op : Operator} {r : TIp} (h : OpR X (inplaceOp op) r) : PIp X op r := fun pins s σ H x y v u Q I r1 r2 q => h pins s σ H x y v u Q I r1 r2 q
/-! min, max of a list of texts -/
def rMinS (K : PySem.W.Frag) : List V → Hp → VK → Prop := fun vs H Q => ∃ (a : Addr) (x : Str) (xs : List Str), vs = [V.ref a] ∧ SqL K H a ((x :: xs).map V.str) ∧ Q (.str (PySem.W.minOf x xs)) H
def rMaxS (K : PySem.W.Frag) : List V → Hp → VK → Prop := fun vs H Q => ∃ (a : Addr) (x : Str) (xs : List Str), vs = [V.ref a] ∧ SqL K H a ((x :: xs).map V.str) ∧ Q (.str (PySem.W.maxOf x xs)) H
theorem cr_minS {X : Cx} (hc : X.calm = true) (hu : X.A.units + 64 < cLine) : CallR X (.builtin "min") (rMinS X.K) := by
  intro pins s σ H vs us Q I r h
  obtain ⟨a, x, xs, rfl, hs, q⟩ := h
  obtain ⟨its, rv, hl, _⟩ := I.list hs
  rw [Vals.ref1 r]
  have hd : PySem.W.Datum.depth Str ≤ 1 := by decide
  exact PySem.W.min_list_datum (x := x) (xs := xs) (I.ok.hd hc) hl.isList (PySem.W.HoldAll.of_strs rv.strs) (by omega) fun i v h' tk hi hv hk =>
    ⟨.str (PySem.W.minOf x xs), H, I.kept hk, PySem.W.str_of_holds hv, q⟩
theorem cr_maxS {X : Cx} (hc : X.calm = true) (hu : X.A.units + 64 < cLine) : CallR X (.builtin "max") (rMaxS X.K) := by
  intro pins s σ H vs us Q I r h
  obtain ⟨a, x, xs, rfl, hs, q⟩ := h
  obtain ⟨its, rv, hl, _⟩ := I.list hs
  rw [Vals.ref1 r]
  have hd : PySem.W.Datum.depth Str ≤ 1 := by decide
  exact PySem.W.max_list_datum (x := x) (xs := xs) (I.ok.hd hc) hl.isList (PySem.W.HoldAll.of_strs rv.strs) (by omega) fun i v h' tk hi hv hk =>
    ⟨.str (PySem.W.maxOf x xs), H, I.kept hk, PySem.W.str_of_holds hv, q⟩
/-! rules that name the written part: for the inside of a comprehension -/
theorem ix_listK {X : Cx} (K : PySem.W.Frag) (h : X.K = K) : IxR X (rIxL K) := by
  subst h
  exact ix_list
theorem ix_tupK {X : Cx} (K : PySem.W.Frag) (h : X.K = K) : IxR X (rIxT K) := by
  subst h
  exact ix_tup
theorem op_in_seqK {X : Cx} (K : PySem.W.Frag) (h : X.K = K) : OpR X (compareOp .In) (rIn K false) := by
  subst h
  exact op_in_seq
theorem op_notIn_seqK {X : Cx} (K : PySem.W.Frag) (h : X.K = K) : OpR X (compareOp .NotIn) (rIn K true) := by
  subst h
  exact op_notIn_seq
theorem call_len_seqK {X : Cx} (K : PySem.W.Frag) (h : X.K = K) : CallR X (.builtin "len") (fun xs H Q => ∃ p ys, xs = [.ref p] ∧ (SqL K H p ys ∨ SqT K H p ys) ∧ Q (.int ys.length) H) := by
  subst h
  exact call_len_seq
end L2

namespace Lb
open PySem PySem.Spec PyProof.Rows L2
/-- a def of the text, its code object at c -/
structure FunC (K : PySem.W.Frag) (x qual : Str) (st : Stmt) (f : Addr) (fd : FuncData) (c : Addr) : Prop where
  F : Fun K x qual st f fd
  code : fd.code = .ref c
theorem FunC.ok {P : Program} {w : World} {K : PySem.W.Frag} {mg : Str → Option Value} {base : Heap} {x qual : Str} {st : Stmt} {f c : Addr} {fd : FuncData} {N ps : List Str} {k : Nat} {sp : Sp} (F : FunC K x qual st f fd c) (S : FnScope N ps (defScope st)) (len : ∀ vs H Q E, sp vs H Q E → vs.length = ps.length)
    (body : ∀ (A : Around) (outer : List Env) (s : Shared) (H : Hp) (vs : List V) (Q : VK) (E : XK), Room k (A.deeper (envOfC qual (defScope st) s.heap.objs.size f (.ref c))) → sp vs H Q E → ∃ t, PSs (cxOf CX0 P w K mg base N qual (defScope st) f (.ref c) A outer s H E).nox (defBody st) t ∧ t { nx := fun _ H' => Q .non H', rt := Q } (start N vs) H) :
    FnOk P w K mg base CX0 (k + 1) f fd ps sp := by
  obtain ⟨⟨⟨_, _, _, _, _, _, cdv, _, _, e, l, cd⟩, _⟩, code⟩ := F
  rw [e] at code
  have ec : cdv = .ref c := code
  rw [e] at l ⊢
  rw [ec] at l cd ⊢
  exact fn_of l cd S len fun A outer s H vs Q E hr hs => let ⟨t, h, q⟩ := body A outer s H vs Q E hr hs; ⟨t, h.nox, q⟩
theorem FunC.kp {K : PySem.W.Frag} {x qual : Str} {st : Stmt} {f c : Addr} {fd : FuncData} (F : FunC K x qual st f fd c) : PySem.W.keepIn K (.ref f) = true := F.F.kp
end Lb

namespace GQ
open PySem PySem.Spec PyProof.Rows L2 GxR
open Lb (Tabl Good)
/-! ### all(.. for x in e), any(..) over a text e, where the test looks at names of the def or of the module
`Elt`: what the test is worth for the sign c in the generator's own frame; h1 is the heap behind e, and all of it but the table at P stands there -/
def Elt (X : Cx) (P : Addr) (h1 : Heap) (scope : Scope) (x : Str) (elt : Expr) (pb : Nat → Bool) : Prop :=
  ∀ (env : Env) (A' : Around) (E' : Value → Shared → Prop) (c : Nat) (t : Tok) (r : Shared) (m : Str → Option Value), env.scope = scope → env.cells = cloFrom X.env.cells scope.names [] → env.globals = X.env.globals → A'.handled = none →
    r.heap.Ns env.locals m → m x = some (.str ⟨#[c]⟩ t) → (∀ b u, b ≠ P → h1.get? b = some u → r.heap.get? b = some u) → wpAny (model X.prog X.w) A' (eval elt env) (fun y r' => y = .bool (pb c) ∧ Keeps r r') E' r
/-- the walk over the signs: the i-th answer -/
def Ans (pb : Nat → Bool) (a : Str) : Nat → Value → Prop := fun i y => ∃ cc, a.cps[i]? = some cc ∧ y = .bool (pb cc)
theorem ans_truth {prog : Program} {w : World} {A : Around} {pb : Nat → Bool} {a : Str} {n : Nat} (hn : n = a.cps.size) :
    TruthOf prog w A (fun j y => ∃ i, (List.range n)[j]? = some i ∧ Ans pb a i y) (trF pb a.cps.toList) := by
  intro j y sj Qj Ej hy hq
  obtain ⟨i, hij, cc, hcc, rfl⟩ := hy
  have hj : j < (List.range n).length := (List.getElem?_eq_some_iff.mp hij).1
  rw [List.getElem?_eq_getElem hj, List.getElem_range] at hij
  cases hij
  have ht : a.cps.toList[j]? = some cc := (Array.getElem?_toList ..).trans hcc
  have hq' : Qj (trF pb a.cps.toList j) sj := hq
  rw [trF_some ht] at hq'
  exact wpAny_truthy_bool hq'
section
variable {X : Cx} {pins : List (Addr × Obj)} {σ : L2.St} {H : Hp} {s : Shared}
variable [Tabl]
/-- the generator over the signs of a, ready to be walked in the state s5 -/
def GoesOver (X : Cx) (pins : List (Addr × Obj)) (σ : L2.St) (H1 : Hp) (a : Str) (pb : Nat → Bool) (g : Addr) (s5 : Shared) : Prop :=
  ∃ (fp wr : List Addr) (G : Array GenState → Array GenState → Prop) (F : Nat → Value → Prop) (St : Nat → Shared → Prop), WalksS X.prog X.w X.A.in1 g fp wr G a.cps.size F St ∧ St 0 s5 ∧ TruthOf X.prog X.w X.A.in1 F (trF pb a.cps.toList) ∧
    ∀ s', Moved wr G s5 s' → ∃ H2, Lb.Same H1 H2 ∧ Inv X pins σ H2 s'
theorem gen_txt {c P : Addr} {elt iter : Expr} {x : Str} {px gpos : Pos} {scope : Scope} {te : TE} {k : Nat} {Q' : Value → Shared → Prop} {R : Str → (Nat → Bool) → Hp → Prop} {Cn : L2.St → Hp → (Nat → Bool) → Prop}
    (hr : Room k X.A) (TB : LamX.TabB X.base X.mg c P) (hmem : (P, X.env.qual ++ "<genexpr>") ∈ Tabl.T) (hcode : X.env.code = .ref c) (S : GenS X.env scope x) (hi : PE X iter te)
    (hel : ∀ (σ : L2.St) (H1 : Hp) (s1 : Shared) (pb : Nat → Bool), Inv X pins σ H1 s1 → Good H1 → Cn σ H1 pb → Elt X P s1.heap scope x elt pb) (hs : ∀ v, genFold iter X.env v = pure v) (I : Inv X pins σ H s)
    (h : te σ H fun v H1 => ∃ (a : Str) (pb : Nat → Bool), v = .str a ∧ Good H1 ∧ Cn σ H1 pb ∧ R a pb H1)
    (hQ : ∀ a pb H1 g s5, R a pb H1 → GoesOver X pins σ H1 a pb g s5 → Q' (.ref g) s5) :
    wpAny (model X.prog X.w) X.A (eval (.GeneratorExp elt [⟨.Name x px, iter, [], 0⟩] scope gpos) X.env) Q' X.xe s := by
  have hd := hr.dp
  refine wpAny_GeneratorExp_walksQ hr.hd S.co (closure_ok S.free) S.cell S.dot S.loc S.kind (by omega) ?_ hs
  refine thn (hi.run pins s σ H _ I h) fun xv s1 hx1 => ?_
  obtain ⟨v, H1, I1, r1, a, pb, rfl, good, cn, rr⟩ := hx1
  obtain ⟨ps, tabP, tri, bears⟩ := good _ hmem
  obtain ⟨tk0, rfl⟩ := _root_.id r1
  have E1 := hel σ H1 s1 pb I1 good cn
  refine wpAny_pyIter_str fun io St W st0 => ?_
  -- the heap with the iterator: hp
  have oldP : s1.heap.get? P = some { cls := .none, data := .fields ps } := I1.hok P _ tabP
  have ltP : P < s1.heap.objs.size := Heap.lt_size oldP
  have nowP : (s1.heap.push io).get? P = some { cls := .none, data := .fields ps } := Heap.get?_push_of_some _ oldP
  have codeH : PySem.W.CodeHd (s1.heap.push io) c P := TB.code.keeps fun b u e => Heap.get?_push_of_some _ (I1.bk b u e)
  have nolim : (s1.heap.push io).NoLimit := I1.nolimit.push io
  have szp : (s1.heap.push io).objs.size = s1.heap.objs.size + 1 := Heap.size_push ..
  refine ⟨nolim, ?_⟩
  -- what is owed once the code object is there: h3, its table ps3
  have owed : ∀ (code : Value) (h3 : Heap) (tk : Nat) (ps3 : Array Value), Heap.ExtBut P (s1.heap.push io) h3 → (s1.heap.push io).objs.size ≤ h3.objs.size → h3.get? P = some { cls := .none, data := .fields ps3 } → (∀ (s' : Shared), (∀ b u, b ≠ P → s1.heap.get? b = some u → s'.heap.get? b = some u) → s'.heap.get? P = some { cls := .none, data := .fields ps3 } → (∀ b u, s1.heap.objs.size < b → b < h3.objs.size → h3.get? b = some u → s'.heap.get? b = some u) → AllBare s'.gens → s'.os = s1.os → ∃ H2, Lb.Same H1 H2 ∧ Inv X pins σ H2 s') →
      wpAny (model X.prog X.w) X.A (builtinsFor X.env.globals X.env.builtins) (fun bi s₄ =>
        ∃ Ia fp wr n₀ Pf St₀ pz F, Value.ref s1.heap.objs.size = .ref Ia ∧ (∀ A' : Around, A'.handled = none → Walks X.prog X.w A' Ia fp wr n₀ Pf St₀) ∧ St₀ 0 s₄.heap ∧ (∀ b ∈ fp, b < s₄.heap.objs.size) ∧ s₄.heap.NoLimit ∧ cStatics ∉ wr ∧
          (∀ href : Heap, (∀ b o, s₄.heap.get? b = some o → href.get? b = some o) →
            QuietGen X.prog X.w (genEnv scope (cloFrom X.env.cells scope.names []) s₄.heap.objs.size code bi X.env) x [] elt (List.range s₄.heap.objs.size) wr Pf pz F href) ∧
          (∀ ga h₅ tk gs, gs.bare = true → s₄.heap.objs.size < ga → h₅.objs.size = ga + 1 → (∀ b o, s₄.heap.get? b = some o → h₅.get? b = some o) →
            WalksS X.prog X.w X.A.in4 ga (ga :: s₄.heap.objs.size :: List.range s₄.heap.objs.size) (s₄.heap.objs.size :: wr) (GenOnlyQ s₄.gens.size) (passing pz n₀ 0).length
              (fun j y => ∃ i, (passing pz n₀ 0)[j]? = some i ∧ F i y) (GenAt X.prog X.w X.A.in4 ga s₄.gens.size s₄.heap.objs.size (List.range s₄.heap.objs.size) wr pz n₀ F) →
            GenAt X.prog X.w X.A.in4 ga s₄.gens.size s₄.heap.objs.size (List.range s₄.heap.objs.size) wr pz n₀ F 0 { s₄ with gens := s₄.gens.push gs, toks := tk, heap := h₅ } →
            Q' (.ref ga) { s₄ with gens := s₄.gens.push gs, toks := tk, heap := h₅ })) X.xe { s1 with heap := h3, toks := tk } := by
    intro code h3 tk ps3 ext3 sz3 at3 fin
    obtain ⟨bm, ob, b1, b2, b3, b4, b5, b6, b7, b8⟩ := TB.bm
    have stat : cStatics < s1.heap.objs.size ∧ cStatics ≠ P := by
      obtain ⟨_, hns, _⟩ := I1.nolimit
      refine ⟨hns.lt, fun e => ?_⟩
      obtain ⟨o', es, ep, ho, hdt, _⟩ := hns
      rw [e, oldP] at ho
      cases ho
      cases hdt
    have kept : ∀ b u, b ≠ P → s1.heap.get? b = some u → h3.get? b = some u := fun b u hb e => ext3 b u hb (Heap.get?_push_of_some _ e)
    have glob3 : h3.Ns X.env.globals X.mg := by
      rw [I1.ok.glob]
      exact ((I1.mod.glob.keeps I1.bk).push io).extBut ext3 TB.gP
    refine wpAny_builtinsFor (m := X.mg) glob3 b1 b2 (kept _ _ b4 (I1.bk _ _ b5)) b6 b7 b8 ?_
    have itlt : s1.heap.objs.size < h3.objs.size := by omega
    refine ⟨s1.heap.objs.size, [s1.heap.objs.size], [s1.heap.objs.size], a.cps.size, SignAt a, St, (fun _ => true), Ans pb a, rfl, W, ?_, fun b hb => ?_, nolim.extBut ext3 stat.2, fun z => ?_, fun href hold => ?_, ?_⟩
    · refine (W X.A hr.hd).frame _ _ _ st0 fun b hb u e => ext3 b u (fun z => ?_) e
      have eb := List.mem_singleton.mp hb
      exact Nat.ne_of_lt ltP (z.symm.trans eb)
    · rw [List.mem_singleton.mp hb]
      exact itlt
    · exact Nat.ne_of_lt stat.1 (List.mem_singleton.mp z)
    · constructor
      · intro A' E' i v r m hA hv hn hm hk
        rw [List.forIn_nil]
        exact wpAny_pure ⟨rfl, keeps_refl _⟩
      · intro A' E' i v r m hA hv hp hn hm hk
        obtain ⟨cc, u, hcc, rfl⟩ := hv
        refine wpAny_mono (E1 _ A' E' cc u r m rfl rfl rfl hA hn hm fun b u hb e => ?_) (fun y r' q => ⟨⟨cc, hcc, q.1⟩, q.2⟩) fun _ _ e => e
        have lb : b < s1.heap.objs.size := Heap.lt_size e
        exact hk b (List.mem_range.mpr (Nat.lt_trans lb itlt)) (fun z => Nat.ne_of_lt lb (List.mem_singleton.mp z)) u (hold b u (kept b u hb e))
    · intro g h5 tk5 gs bare5 lt5 sz5 keep5 W5 at5
      simp only [List.length_range, GxR.passing_true] at W5
      refine hQ a pb H1 g _ rr ⟨_, _, _, _, _, W5.in4_1, at5, ans_truth rfl, fun s' mv => ?_⟩
      have outside : ∀ b u, s1.heap.get? b = some u → b ∉ h3.objs.size :: [s1.heap.objs.size] := fun b u e hb => by
        have lb : b < s1.heap.objs.size := Heap.lt_size e
        rw [List.mem_cons, List.mem_singleton] at hb
        rcases hb with z | z
        · rw [z] at lb
          exact Nat.lt_irrefl _ (Nat.lt_trans itlt lb)
        · rw [z] at lb
          exact Nat.lt_irrefl _ lb
      exact fin s' (fun b u hb e => mv.heap b u (outside b u e) (keep5 b u (kept b u hb e))) (mv.heap P _ (outside P _ oldP) (keep5 P _ at3)) (fun b u l1 l2 e => mv.heap b u (fun hb => by
        rw [List.mem_cons, List.mem_singleton] at hb
        rcases hb with z | z
        · rw [z] at l2
          exact Nat.lt_irrefl _ l2
        · rw [z] at l1
          exact Nat.lt_irrefl _ l1) (keep5 b u e)) (AllBare.movedS (I1.bare.push bare5) mv) mv.os
  -- the table as it was
  have asIs : ∀ s' : Shared, (∀ b u, b ≠ P → s1.heap.get? b = some u → s'.heap.get? b = some u) → s'.heap.get? P = some { cls := .none, data := .fields ps } → AllBare s'.gens → s'.os = s1.os → ∃ H2, Lb.Same H1 H2 ∧ Inv X pins σ H2 s' := fun s' k1 k2 k3 k4 => by
    have J := inv_tab (more := #[]) (h' := s'.heap) (g' := s'.gens) (d' := s'.drawn) (t' := s'.toks) I1 tabP k1 (by rw [Array.append_empty]; exact k2) k3
    rw [sh_eta s1 s' k4, Array.append_empty] at J
    have e : upd H1 P (.tbl ps) = H1 := by
      funext b
      by_cases z : b = P
      · rw [z, upd_same]
        exact tabP.symm
      · exact upd_ne z
    rw [e] at J
    exact ⟨H1, .refl H1, J⟩
  cases hit : codeAmong gpos ps.toList with
  | some cv => exact wpAny_genexprCode_hit hcode (codeH.code nowP tri) hit (owed cv _ s1.toks ps (Heap.ExtBut.refl _ _) (Nat.le_refl _) nowP fun s' k1 k2 _ k3 k4 => asIs s' k1 k2 k3 k4)
  | none =>
    refine wpAny_genexprCodeX hcode (codeH.code nowP tri) (codeH.tab nowP) hit fun c' h' tk hx hge hlt hco' hrec htab' _ => ?_
    obtain ⟨c2, oc, vs, t, e2, hoc, hdc, hvc⟩ := hrec
    cases e2
    refine owed _ h' tk _ hx (Nat.le_trans hge (Nat.le_of_lt hlt)) htab'.2 fun s' k1 k2 k5 k3 k4 => ?_
    have hge0 : (s1.heap.push io).objs.size ≤ c' := hge
    rw [szp] at hge0
    have hge1 : s1.heap.objs.size < c' := hge0
    have nC : H1 c' = none := I1.hok.fresh (Nat.le_of_lt hge1)
    have J0 := LamX.inv_table (q := X.env.qual ++ "<genexpr>") (h' := s'.heap) (t' := s'.toks) I1 tabP k1 k2 (Nat.le_of_lt hge1) ⟨oc, vs, t, k5 _ _ hge1 hlt hoc, hdc, hvc⟩
    have atP : upd (upd H1 P (.tbl (ps ++ #[rawInt gpos.line, rawInt gpos.col, .ref c']))) c' (LamX.CodeO c' (X.env.qual ++ "<genexpr>")) P = some (.tbl (ps ++ #[rawInt gpos.line, rawInt gpos.col, .ref c'])) := by
      rw [upd_ne (ne_of_none tabP nC), upd_same]
    have J := inv_tab (more := #[]) (h' := s'.heap) (g' := s'.gens) (d' := s'.drawn) (t' := s'.toks) J0 atP (fun b u _ e => e) (by rw [Array.append_empty]; exact k2) k3
    have es : ({ s1 with heap := s'.heap, gens := s'.gens, drawn := s'.drawn, toks := s'.toks } : Shared) = s' := sh_eta s1 s' k4
    have J : Inv X pins σ _ ({ s1 with heap := s'.heap, gens := s'.gens, drawn := s'.drawn, toks := s'.toks } : Shared) := J
    rw [es, Array.append_empty] at J
    have eP : ∀ (G : Hp) (o : HO), G P = some o → upd G P o = G := fun G o hG => by
      funext b
      by_cases z : b = P
      · rw [z, upd_same]
        exact hG.symm
      · exact upd_ne z
    rw [eP _ _ atP] at J
    refine ⟨_, Lb.same_code tabP tri bears nC hmem, J⟩
/-- behind it the def's table may have grown -/
def tAll (Cn : L2.St → Hp → (Nat → Bool) → Prop) (te : TE) : TE := fun σ H Q => te σ H fun v H1 => ∃ (a : Str) (pb : Nat → Bool), v = .str a ∧ Good H1 ∧ Cn σ H1 pb ∧ ∀ H2, Lb.Same H1 H2 → Q (.bl (a.cps.toList.all pb)) H2
theorem pe_all {c P : Addr} {elt iter : Expr} {x : Str} {px p pos gpos : Pos} {scope : Scope} {Cn : L2.St → Hp → (Nat → Bool) → Prop} {te : TE} {k : Nat}
    (hr : Room k X.A) (hg : Gl X "all") (hm : X.mg "all" = none) (TB : LamX.TabB X.base X.mg c P) (hmem : (P, X.env.qual ++ "<genexpr>") ∈ Tabl.T) (hcode : X.env.code = .ref c) (S : GenS X.env scope x) (hi : PE X iter te)
    (hel : ∀ (pins : List (Addr × Obj)) (σ : L2.St) (H1 : Hp) (s1 : Shared) (pb : Nat → Bool), Inv X pins σ H1 s1 → Good H1 → Cn σ H1 pb → Elt X P s1.heap scope x elt pb) (hs : ∀ v, genFold iter X.env v = pure v := by intro _; rfl)
    (hb : bootBuiltins "all" = some (.builtin "all") := by decide +kernel)
    (he : starEach [.GeneratorExp elt [⟨.Name x px, iter, [], 0⟩] scope gpos] X.env = (false, eval (.GeneratorExp elt [⟨.Name x px, iter, [], 0⟩] scope gpos) X.env) :: starEach [] X.env := by rfl) :
    PE X (.Call (.Name "all" p) [.GeneratorExp elt [⟨.Name x px, iter, [], 0⟩] scope gpos] [] pos) (tAll Cn te) := by
  refine ⟨fun pins s σ H Q I h => wpAny_Call_Name_kw (ld_blt I hg hm hb (PyProof.Rows.callWith_builtin1 ?_ he (by rfl)))⟩
  rw [he]
  refine Calls.spliced_cons (gen_txt (R := fun a pb H1 => ∀ H2, Lb.Same H1 H2 → Q (.bl (a.cps.toList.all pb)) H2) hr TB hmem hcode S hi (hel pins) hs I h fun a pb H1 g s5 hR ready => ?_)
  obtain ⟨fp, wr, G, F, St, W, st0, tr, fin⟩ := ready
  refine Calls.spliced_nil (call_all_walkS (W.self 0 _ _ _ st0 ⟨g, fp, wr, G, _, F, St, _, rfl, W, st0, tr, fun s' mv => ?_⟩))
  obtain ⟨H2, hT, J⟩ := fin s' mv
  refine ⟨.bl _, H2, J, rfl, ?_⟩
  rw [all_signs a pb]
  exact hR H2 hT
/-- x in y, y a text that a name of the def holds -/
def CnVar (i : Nat) : L2.St → Hp → (Nat → Bool) → Prop := fun σ _ pb => ∃ z : Str, σ[i]? = some (some (.str z)) ∧ pb = fun c => decide (c ∈ z.cps.toList)
/-- x in y, y a text of the module -/
def CnGl (z : Str) : L2.St → Hp → (Nat → Bool) → Prop := fun _ _ pb => pb = fun c => decide (c ∈ z.cps.toList)
theorem elt_var {P : Addr} {scope : Scope} {x y : Str} {i : Nat} {p1 p2 p3 : Pos} {pb : Nat → Bool} (S : GenS X.env scope x) (hy : scope.names.lookup y = some .free) (hm : (y, NameKind.free) ∈ scope.names) (hN : X.N[i]? = some y) (hv : X.env.scope.names.lookup y = some .cell)
    (I : Inv X pins σ H s) (tb : TabG H P) (cn : CnVar i σ H pb) (hd : (x == ("__debug__" : Str)) = false := by decide) (hd' : (y == ("__debug__" : Str)) = false := by decide) (hcd : (y == ("__classdict__" : Str)) = false := by decide) :
    Elt X P s.heap scope x (.Compare (.Name x p1) [.In] [.Name y p2] p3) pb := by
  obtain ⟨z, hz, rfl⟩ := cn
  obtain ⟨m0, hn0, look⟩ := I.loc
  obtain ⟨u, ru, lk⟩ := look i y _ hN hz (.inr (.inl hv))
  obtain ⟨tz, rfl⟩ := ru
  have cellAt : ∃ c0, X.env.cells.lookup y = some c0 ∧ s.heap.IsCell c0 (some (.str z tz)) := by
    rcases lk with ⟨hk, _⟩ | ⟨_, r⟩
    · have hk' : X.env.scope.names.lookup y = some .local := hk
      rw [hv] at hk'
      cases hk'
    · exact r
  obtain ⟨c0, hc0, o0, ho0, hd0⟩ := cellAt
  intro env A' E' c t r m hs hcl hg hA hn hx keep
  have kd : env.scope.kind = .function := by rw [hs]; exact S.kind
  have notP : c0 ≠ P := fun e => by
    obtain ⟨ps, hP, _⟩ := tb
    have hP' : s.heap.get? P = some { cls := .none, data := .fields ps } := I.hok P _ hP
    rw [e, hP'] at ho0
    cases ho0
    cases hd0
  have lx : env.kindOf x = some .local := by show env.scope.names.lookup x = _; rw [hs]; exact S.loc
  have ly : env.kindOf y = some .free := by show env.scope.names.lookup y = _; rw [hs]; exact hy
  have clo : env.cells.lookup y = some c0 := by rw [hcl]; exact NdefX.clo_has S.free hm hc0
  refine wpAny_Compare1 (wpAny_Name (wpAny_loadName_local kd lx hn hx ?_) hd)
  refine wpAny_Name (wpAny_loadName_free kd ly clo ⟨o0, keep c0 o0 notP ho0, hd0⟩ ?_ hcd) hd'
  exact PyProof.Rows.in_str ⟨congrArg Value.bool (PySem.StrLaws.found_one z c), keeps_refl r⟩
theorem elt_glob {P : Addr} {scope : Scope} {x y : Str} {z : Str} {tz : Tok} {p1 p2 p3 : Pos} {pb : Nat → Bool} (S : GenS X.env scope x) (hy : scope.names.lookup y = some .globalImplicit) (hm : X.mg y = some (.str z tz)) (gP : mainGlobals ≠ P)
    (I : Inv X pins σ H s) (cn : CnGl z σ H pb) (hd : (x == ("__debug__" : Str)) = false := by decide) (hd' : (y == ("__debug__" : Str)) = false := by decide) :
    Elt X P s.heap scope x (.Compare (.Name x p1) [.In] [.Name y p2] p3) pb := by
  cases cn
  intro env A' E' c t r m hs hcl hg hA hn hx keep
  have kd : env.scope.kind = .function := by rw [hs]; exact S.kind
  have lx : env.kindOf x = some .local := by show env.scope.names.lookup x = _; rw [hs]; exact S.loc
  have ly : env.kindOf y = some .globalImplicit := by show env.scope.names.lookup y = _; rw [hs]; exact hy
  have gl : r.heap.Ns env.globals X.mg := by
    rw [hg, I.ok.glob]
    exact (I.mod.glob.keeps I.bk).at fun o e => keep _ o gP e
  refine wpAny_Compare1 (wpAny_Name (wpAny_loadName_local kd lx hn hx ?_) hd)
  refine Calls.Name_function_global kd ly (Calls.loadGlobal_global gl hm ?_) hd'
  exact PyProof.Rows.in_str ⟨congrArg Value.bool (PySem.StrLaws.found_one z c), keeps_refl r⟩
/-! ### the generator's names, told by the scopes alone -/
structure GenB (sc scope : Scope) (x : Str) : Prop where
  kind : scope.kind = .function
  co : scope.isCoroutine = false
  cell : ∀ y ∈ scope.names, y.2 ≠ .cell
  dot : scope.names.lookup (".0" : Str) = some NameKind.local
  loc : scope.names.lookup x = some .local
  free : ∀ y ∈ scope.names, y.2 = .free → sc.names.lookup y.1 = some .cell ∨ sc.names.lookup y.1 = some .free
def genBB (sc scope : Scope) (x : Str) : Bool :=
  decide (scope.kind = .function) && !scope.isCoroutine && decide (scope.names.lookup (".0" : Str) = some NameKind.local) && decide (scope.names.lookup x = some .local) && scope.names.all fun y => !decide (y.2 = .cell) && (!decide (y.2 = .free) || decide (sc.names.lookup y.1 = some .cell) || decide (sc.names.lookup y.1 = some .free))
theorem genB_by {sc scope : Scope} {x : Str} (h : genBB sc scope x = true) : GenB sc scope x := by
  unfold genBB at h
  simp only [Bool.and_eq_true, Bool.or_eq_true, Bool.not_eq_true', decide_eq_true_eq, decide_eq_false_iff_not, List.all_eq_true] at h
  obtain ⟨⟨⟨⟨a1, a2⟩, a3⟩, a4⟩, a5⟩ := h
  refine ⟨a1, a2, fun y m => (a5 y m).1, a3, a4, fun y m e => ?_⟩
  rcases (a5 y m).2 with (z | z) | z
  · exact absurd e z
  · exact .inl z
  · exact .inr z
theorem GenB.S {scope : Scope} {x : Str} (B : GenB X.env.scope scope x) (ok : X.Ok) : GenS X.env scope x := ⟨B.kind, B.co, B.cell, B.dot, B.loc, fun y m e => ok.has _ (B.free y m e)⟩
theorem pe_weak {e : Expr} {te : TE} (h : PE X e te) : PE X e (fun σ H Q => ∃ R : VK, te σ H R ∧ ∀ v H1, R v H1 → Q v H1) :=
  ⟨fun pins s σ H Q I ⟨R, a, b⟩ => wpAny_mono (h.run pins s σ H R I a) (fun u s1 ⟨v, H1, I1, r, q⟩ => ⟨v, H1, I1, r, b v H1 q⟩) fun _ _ z => z⟩
/-- all(x in y for x in e), y a text of the module -/
def tAllG (z : Str) (te : TE) : TE := fun σ H Q => te σ H fun v H1 => ∃ a : Str, v = .str a ∧ Good H1 ∧ ∀ H2, Lb.Same H1 H2 → Q (.bl (a.cps.toList.all fun c => decide (c ∈ z.cps.toList))) H2
/-- all(x in y for x in e), y a text in the i-th slot -/
def tAllV (i : Nat) (te : TE) : TE := fun σ H Q => te σ H fun v H1 => ∃ a z : Str, v = .str a ∧ σ[i]? = some (some (.str z)) ∧ Good H1 ∧ ∀ H2, Lb.Same H1 H2 → Q (.bl (a.cps.toList.all fun c => decide (c ∈ z.cps.toList))) H2
theorem pe_allG {c P : Addr} {iter : Expr} {x y : Str} {px p pos gpos p1 p2 p3 : Pos} {scope : Scope} {te : TE} {k : Nat} {z : Str} {tz : Tok}
    (hr : Room k X.A) (hm : X.mg "all" = none) (hmy : X.mg y = some (.str z tz)) (TB : LamX.TabB X.base X.mg c P) (hmem : (P, X.env.qual ++ "<genexpr>") ∈ Tabl.T) (hcode : X.env.code = .ref c) (B : GenB X.env.scope scope x) (hi : PE X iter te)
    (hg : Gl X "all" := by rfl) (hy : scope.names.lookup y = some .globalImplicit := by rfl) (hs : ∀ v, genFold iter X.env v = pure v := by intro _; rfl) (hd : (x == ("__debug__" : Str)) = false := by decide) (hd' : (y == ("__debug__" : Str)) = false := by decide)
    (he : starEach [.GeneratorExp (.Compare (.Name x p1) [.In] [.Name y p2] p3) [⟨.Name x px, iter, [], 0⟩] scope gpos] X.env = (false, eval (.GeneratorExp (.Compare (.Name x p1) [.In] [.Name y p2] p3) [⟨.Name x px, iter, [], 0⟩] scope gpos) X.env) :: starEach [] X.env := by rfl) :
    PE X (.Call (.Name "all" p) [.GeneratorExp (.Compare (.Name x p1) [.In] [.Name y p2] p3) [⟨.Name x px, iter, [], 0⟩] scope gpos] [] pos) (tAllG z te) := by
  refine ⟨fun pins s σ H Q I h => ?_⟩
  have S := B.S I.ok
  refine (pe_all (Cn := CnGl z) hr hg hm TB hmem hcode S (pe_weak hi) (fun pins σ H1 s1 pb I1 _ cn => elt_glob S hy hmy TB.gP I1 cn hd hd') hs (he := he)).run pins s σ H Q I ⟨_, h, fun v H1 q => ?_⟩
  obtain ⟨a, e1, e2, e3⟩ := q
  exact ⟨a, _, e1, e2, rfl, e3⟩
theorem pe_allV {c P : Addr} {iter : Expr} {x y : Str} {i : Nat} {px p pos gpos p1 p2 p3 : Pos} {scope : Scope} {te : TE} {k : Nat}
    (hr : Room k X.A) (hm : X.mg "all" = none) (hN : X.N[i]? = some y) (TB : LamX.TabB X.base X.mg c P) (hmem : (P, X.env.qual ++ "<genexpr>") ∈ Tabl.T) (hcode : X.env.code = .ref c) (B : GenB X.env.scope scope x) (hi : PE X iter te)
    (hv : X.env.scope.names.lookup y = some .cell := by rfl) (hg : Gl X "all" := by rfl) (hy : scope.names.lookup y = some .free := by rfl) (hmm : (y, NameKind.free) ∈ scope.names := by exact PySem.mem_of_lookup rfl) (hs : ∀ v, genFold iter X.env v = pure v := by intro _; rfl) (hd : (x == ("__debug__" : Str)) = false := by decide) (hd' : (y == ("__debug__" : Str)) = false := by decide) (hcd : (y == ("__classdict__" : Str)) = false := by decide)
    (he : starEach [.GeneratorExp (.Compare (.Name x p1) [.In] [.Name y p2] p3) [⟨.Name x px, iter, [], 0⟩] scope gpos] X.env = (false, eval (.GeneratorExp (.Compare (.Name x p1) [.In] [.Name y p2] p3) [⟨.Name x px, iter, [], 0⟩] scope gpos) X.env) :: starEach [] X.env := by rfl) :
    PE X (.Call (.Name "all" p) [.GeneratorExp (.Compare (.Name x p1) [.In] [.Name y p2] p3) [⟨.Name x px, iter, [], 0⟩] scope gpos] [] pos) (tAllV i te) := by
  refine ⟨fun pins s σ H Q I h => ?_⟩
  have S := B.S I.ok
  refine (pe_all (Cn := CnVar i) hr hg hm TB hmem hcode S (pe_weak hi) (fun pins σ H1 s1 pb I1 g cn => elt_var S hy hmm hN hv I1 (let ⟨ps, h1, h2, _⟩ := g _ hmem; ⟨ps, h1, h2⟩) cn hd hd' hcd) hs (he := he)).run pins s σ H Q I ⟨_, h, fun v H1 q => ?_⟩
  obtain ⟨a, z, e1, e0, e2, e3⟩ := q
  exact ⟨a, _, e1, e2, ⟨z, e0, rfl⟩, e3⟩
end
end GQ

namespace Lb
open PySem PySem.Spec PyProof.Rows L2
/-! ### the text's own errors -/
/-- a class of errors -/
structure ErrT (K : PySem.W.Frag) (mg : Str → Option Value) (x : Str) (C : Addr) : Prop where
  g : mg x = some (.ref C)
  o : OexC K C
  f : XfC K C
  i : ExcC K C
/-! what class is one of what class: from the classes' own rows -/
theorem cls_bit {K : PySem.W.Frag} {C : Addr} (h1 : PySem.W.isClsIn K C = true) (h2 : PySem.W.typeIn K (.ref C) = some (.type "type")) : ((PySem.W.clsIn K C).isSome && PySem.W.typeIn K (.ref C) == some (.type "type")) = true := by
  have h1' : (PySem.W.clsIn K C).isSome = true := h1
  rw [h1', h2] <;> rfl
theorem kitC {K : PySem.W.Frag} {t : Value} {C : Addr} {b : Bool} (h1 : PySem.W.isClsIn K C = true) (h2 : PySem.W.typeIn K (.ref C) = some (.type "type")) (h3 : PySem.W.subIn K t (.ref C) = some b) : PySem.W.kitCls K t (.ref C) = some b := by
  show (if ((PySem.W.clsIn K C).isSome && PySem.W.typeIn K (.ref C) == some (.type "type")) = true then PySem.W.subIn K t (.ref C) else none) = some b
  rw [if_pos (cls_bit h1 h2)]
  exact h3
theorem kitY {K : PySem.W.Frag} {t : Value} {C : Addr} (h1 : PySem.W.isClsIn K C = true) (h2 : PySem.W.typeIn K (.ref C) = some (.type "type")) (h3 : PySem.W.subIn K t (.ref C) = some true) : PySem.W.kitOne K t (.ref C) = some true := by
  unfold PySem.W.kitOne
  split
  · rfl
  · exact kitC h1 h2 h3
theorem kitN {K : PySem.W.Frag} {D C : Addr} (h1 : PySem.W.isClsIn K C = true) (h2 : PySem.W.typeIn K (.ref C) = some (.type "type")) (h3 : PySem.W.subIn K (.ref D) (.ref C) = some false) (h4 : PySem.W.subIn K (.ref C) (.ref C) = some true) :
    PySem.W.kitOne K (.ref D) (.ref C) = some false := by
  unfold PySem.W.kitOne
  split
  · rename_i e
    have e' := beq_iff_eq.mp e
    rw [e', h4] at h3
    cases h3
  · exact kitC h1 h2 h3
theorem kitB {K : PySem.W.Frag} {D : Addr} {T : String} {b : Bool} (hm : PySem.W.kitMeta T = true) (h : PySem.W.subIn K (.ref D) (.type T) = some b) : PySem.W.kitOne K (.ref D) (.type T) = some b := by
  unfold PySem.W.kitOne
  split
  · rename_i e
    cases beq_iff_eq.mp e
  · show (if PySem.W.kitMeta T = true then PySem.W.subIn K (.ref D) (.type T) else none) = some b
    rw [if_pos hm]
    exact h
theorem exmR {K : PySem.W.Frag} {D C : Addr} {b : Bool} (h0 : PySem.W.subIn K (.ref C) (.type "BaseException") = some true) (h1 : PySem.W.isClsIn K C = true) (h2 : PySem.W.typeIn K (.ref C) = some (.type "type")) (h3 : PySem.W.subIn K (.ref D) (.ref C) = some b) :
    PySem.W.exmOne K (.ref D) (.ref C) = some b := by
  have e1 : (PySem.W.subIn K (.ref C) (.type "BaseException") == some true) = true := by rw [h0] <;> rfl
  show (if (PySem.W.subIn K (.ref C) (.type "BaseException") == some true) = true then PySem.W.kitCls K (.ref D) (.ref C) else none) = some b
  rw [if_pos e1]
  exact kitC h1 h2 h3
/-- the j-th row of a class -/
def inCls (s : Stmt) (j : Nat) : Stmt := match s with
  | .ClassDef _ _ _ b _ _ _ _ _ _ _ => b.getD j (.Pass ⟨0, 0, 0, 0⟩)
  | _ => .Pass ⟨0, 0, 0, 0⟩
/-- isinstance(e, c), e the error that the suite holds, whatever its class -/
def rIsD (K : PySem.W.Frag) (a : Addr) (cls : Value) (d : Option Addr) : List V → Hp → VK → Prop := fun xs H Q =>
  ∃ (D : Addr) (c : V) (cv : Value) (b : Bool), cls = .ref D ∧ ExcC K D ∧ xs = [.ref a, c] ∧ (∀ u, RelV c u → u = cv) ∧ (∀ dd, d = some dd → ∃ fs, H dd = some (.xd fs)) ∧ PySem.W.kitOne K (.ref D) cv = some b ∧ Q (.bl b) H
theorem call_isD {X : Cx} {a : Addr} {cls : Value} {d : Option Addr} {oe : Obj} {pn : List (Addr × Obj)} (hz : Zc cls d oe) (hf : ∃ vs, oe.data = .fields vs) : CallR (X.suite a ((a, oe) :: pn)) (.builtin "isinstance") (rIsD X.K a cls d) := by
  intro pins s σ H xs us Q I r h
  obtain ⟨D, c, cv, b, rfl, C, rfl, same, dict, e, q⟩ := h
  obtain ⟨u1, u2, rfl, r1, r2⟩ := vals2 r
  cases r1
  cases same _ r2
  obtain ⟨at_, _⟩ := I.pin (a, oe) (List.mem_append_left _ List.mem_cons_self)
  obtain ⟨vs, data⟩ := hf
  obtain ⟨od, J⟩ : ∃ od, PySem.W.InstAt s.heap a oe D od := by
    have no : PySem.W.notCls oe = true := by
      unfold PySem.W.notCls
      rw [data] <;> rfl
    cases d with
    | none => exact ⟨none, at_, hz.1, no, by rw [hz.2]; trivial⟩
    | some dd =>
      obtain ⟨fs, hd⟩ := dict dd rfl
      obtain ⟨mA, ns, _⟩ := (show ObjOk X.prog X.w H s.heap dd (.xd fs) from I.hok dd _ hd)
      obtain ⟨od, ho, _⟩ := lookIn_ns ns
      exact ⟨some od, at_, hz.1, no, by rw [hz.2]; exact ho⟩
  have some_ : (PySem.W.clsIn X.K D).isSome = true := by
    obtain ⟨cd, hc, _⟩ := PySem.W.any_some C.hd
    rw [hc]
    rfl
  exact PySem.W.kia_one (PySem.W.kitx_exc some_ C.hg C.hk C.hs C.ha C.hn C.ht C.hm) I.kIn J e (fun z => nomatch z) fun tk => ⟨.bl b, H, I.kept (t' := tk) fun _ _ z => z, rfl, q⟩
/-! ### a class with an own __init__(self, f): self.f = f -/
def sp_init1 (K : PySem.W.Frag) (f : Str) : Sp := fun vs H Q _ => ∃ (a C : Addr) (v : V), vs = [.ref a, v] ∧ OexC K C ∧ PySem.W.findIn K (.ref C) f = some none ∧ H a = some (exo a C none) ∧
  ∀ dx, H dx = none → dx ≠ a → Q .non (upd (upd H dx (exd dx [(f, v)])) a (exo a C (some dx)))
theorem pa_weak {X : Cx} {es : List Expr} {t : TA} (h : PA X es t) : PA X es (fun σ H Q => ∃ R : List V → Hp → Prop, t σ H R ∧ ∀ vs H1, R vs H1 → Q vs H1) :=
  ⟨fun pos pins s σ H Q I ⟨R, a, b⟩ => wpAny_mono (h.run pos pins s σ H R I a) (fun u s1 ⟨v, H1, I1, r, q⟩ => ⟨v, H1, I1, r, b v H1 q⟩) fun _ _ z => z⟩
/-- C(e): a new error, its field f -/
def tErr1 (C : Addr) (f : Str) (ta : TA) : L2.St → Hp → XK → Prop := fun σ H Q => ta σ H fun vs H1 => ∃ v, vs = [v] ∧ ∀ d, H1 d = none → Q (.ref C) (some d) (upd H1 d (.xd [(f, v)]))
theorem pmk_err1 {X : Cx} {CX : CXT} {e : Expr} {ta : TA} {x f : Str} {C fI : Addr} {k : Nat} {fd : FuncData} {ps : List Str} {p pos : Pos} (E : ErrT X.K X.mg x C) (iC : PySem.W.findIn X.K (.ref C) "__init__" = some (some (.ref fI))) (tI : PySem.W.typeIn X.K (.ref fI) = some (.type "function"))
    (hno : PySem.W.findIn X.K (.ref C) f = some none) (F1 : FnOk X.prog X.w X.K X.mg X.base CX k fI fd ps (sp_init1 X.K f)) (hr : Room (k + 1) X.A) (hb : Binds X.K fd ps []) (hx : Passes CX X (fun _ _ _ => False)) (ha : PA X [e] ta) (hg : Gl X x := by rfl)
    (hdb : (x == ("__debug__" : Str)) = false := by decide) (he : starEach [e] X.env = (false, eval e X.env) :: starEach [] X.env := by rfl) (hpl : (backTo pos (starEach [] X.env)).any (·.1) = false := by rfl) :
    PMk X (.Call (.Name x p) [e] [] pos) (tErr1 C f ta) := by
  intro pins s σ H Q I h
  refine pmk_oex (dvs := []) E.o iC tI F1 hr hb .nil hx hg E.g (pa_weak ha) hdb he hpl pins s σ H Q I ⟨_, h, fun vs H1 z => ?_⟩
  obtain ⟨v, rfl, q⟩ := z
  refine ⟨by show 1 ≤ 1000; decide, fun a na => ⟨a, C, v, rfl, E.o, hno, upd_same, fun dx nd ne => ?_⟩⟩
  have nd1 : H1 dx = none := by
    rw [upd_ne ne] at nd
    exact nd
  refine ⟨rfl, dx, [(f, v)], upd_same, by rw [upd_ne ne, upd_same], nd1, ?_⟩
  have e : upd (del (upd (upd (upd H1 a (exo a C none)) dx (exd dx [(f, v)])) a (exo a C (some dx))) a) dx (.xd [(f, v)]) = upd H1 dx (.xd [(f, v)]) := by
    funext b
    by_cases b1 : b = dx
    · rw [b1, upd_same, upd_same]
    · rw [upd_ne b1, upd_ne b1]
      by_cases b2 : b = a
      · rw [b2, del_same, na]
      · rw [del_ne b2, upd_ne b2, upd_ne b1, upd_ne b2]
  rw [e]
  exact q dx nd1
/-- __init__(self, f): self.f = f -/
theorem ok_init1 {P : Program} {w : World} {K : PySem.W.Frag} {mg : Str → Option Value} {base : Heap} {x qual f : Str} {st : Stmt} {fI : Addr} {fd : FuncData} {p0 p1 p2 p3 p4 : Pos} {k : Nat} (F : Fun K x qual st fI fd) (S : FnScope ["self", f] ["self", f] (defScope st)) (hf : f ≠ "self")
    (body : defBody st = [.Assign [.Attribute (.Name "self" p0) f p1] (.Name f p2) p3]) (v0 : Vis (defScope st) "self" := by exact Or.inl rfl) (v1 : Vis (defScope st) f := by exact Or.inl rfl) (d1 : (f == ("__debug__" : Str)) = false := by decide) (d2 : (f == ("__classdict__" : Str)) = false := by decide) :
    FnOk P w K mg base CX0 (k + 1) fI fd ["self", f] (sp_init1 K f) := by
  refine F.ok S (fun vs H Q E h => ?_) (fun cdv A outer s H vs Q E hr h => ?_)
  · obtain ⟨a, C, v, rfl, _⟩ := h
    rfl
  · obtain ⟨a, C, v, rfl, T, no, e, q⟩ := h
    rw [body]
    exact ⟨_, pss_one (ps_ost (pv 0 rfl v0) (pv 1 rfl v1 d1 d2)), v, rfl, .ref a, rfl, a, C, rfl, T, no, .inl ⟨e, fun dx n ne => q dx n ne⟩⟩
end Lb

namespace Lb
open PySem PySem.Spec PyProof.Rows L2
/-! ### a lambda made and handed to a def of the text -/
section
variable [Tabl] {X : Cx} {pins : List (Addr × Obj)} {σ : L2.St} {H : Hp} {s : Shared}
abbrev qLam (X : Cx) : Str := X.env.qual ++ "<lambda>"
abbrev lamO (X : Cx) (params : Arguments) (body : Expr) (scope : Scope) (pm : Value) (c : Addr) (ct : Value) : Obj := PySem.W.kla_obj "<lambda>" (qLam X) params body scope (cloFrom X.env.cells scope.names []) pm c ct
theorem lam_made {c P : Addr} {params : Arguments} {body : Expr} {scope : Scope} {pos : Pos} {E Q : Value → Shared → Prop} (I : Inv X pins σ H s) (TB : LamX.TabB X.base X.mg c P) (code : X.env.code = .ref c) (mem : (P, qLam X) ∈ Tabl.T) (good : Good H) (L : LamX.LamS X.env.scope scope) (plain : defaultsOf params X.env = ([], []))
    (h : ∀ (f c' : Addr) (pm ct : Value) (H1 : Hp) (s1 : Shared), Inv X pins σ H1 s1 → Same H H1 → s1.heap.get? f = some (lamO X params body scope pm c' ct) → H1 f = none → f ∉ frs X.stack → H1 c' = some (LamX.CodeO c' (qLam X)) → Q (.ref f) s1) :
    wpAny (model X.prog X.w) X.A (eval (.Lambda params body scope pos) X.env) Q E s := by
  obtain ⟨ps, tab, tri, bears⟩ := good _ mem
  have free := L.has I.ok
  have tab' : s.heap.get? P = some { cls := .none, data := .fields ps } := I.hok P _ tab
  have far : ∀ f, s.heap.objs.size ≤ f → f ∉ frs X.stack := fun f l m => by
    rcases List.mem_cons.mp (I.stkSub _ m) with e | e
    · have low := I.lt
      rw [← e] at low
      exact absurd (Nat.lt_of_lt_of_le low l) (Nat.lt_irrefl _)
    · exact I.nofs l e
  refine PySem.W.kla_eval plain ?_
  cases hit : codeAmong pos ps.toList with
  | some cv =>
    obtain ⟨c', rfl, is⟩ := bears pos cv hit
    refine PySem.W.kla_makeFunctionHit (mg := X.mg) (c := c) (P := P) (ps := ps) (closure_ok free) I.ok.glob (I.mod.glob.keeps I.bk) code (TB.code.keeps I.bk) tab' tri hit (TB.bm.keeps I.bk) fun ct h1 tk keep size => ?_
    exact h h1.objs.size c' _ ct H _ (I.kept fun b o e => Heap.get?_push_of_some _ (keep b o e)) (.refl H) (Heap.get?_push_size _ rfl) (I.hok.fresh size) (far _ size) is
  | none =>
    refine PySem.W.kla_makeFunction (mg := X.mg) (c := c) (P := P) (ps := ps) (closure_ok free) I.ok.glob (I.mod.glob.keeps I.bk) code (TB.code.keeps I.bk) tab' tri hit TB.gP (TB.bm.keeps I.bk) fun c' ct h1 tk keep above below rec_ grown => ?_
    obtain ⟨c2, oc, vs, t, ec, o1, o2, o3⟩ := rec_
    cases ec
    have new : H c' = none := I.hok.fresh above
    have size : s.heap.objs.size ≤ h1.objs.size := by omega
    refine h h1.objs.size c' _ ct _ _ (LamX.inv_table (t' := tk) I tab (fun b o n e => Heap.get?_push_of_some _ (keep b o n e)) (Heap.get?_push_of_some _ grown) above ⟨oc, vs, t, Heap.get?_push_of_some _ o1, o2, o3⟩) (same_code tab tri bears new mem) (Heap.get?_push_size _ rfl) ?_ (far _ size) upd_same
    have lp := Heap.lt_size tab'
    rw [upd_ne (Nat.ne_of_gt below), upd_ne (Nat.ne_of_gt (Nat.lt_of_lt_of_le lp size))]
    exact I.hok.fresh size
end
end Lb

namespace Lb
open PySem PySem.Spec PyProof.Rows L2
/-! ### a lambda called in a suite: what it lets out is told of the slots there -/
section
variable {X : Cx} {pins : List (Addr × Obj)} {σ : L2.St} {H : Hp} {s : Shared}
theorem pe_actS {CXg : CXT} {Eg : XK} {Ng : List Str} {qg : Str} {sg : Scope} {g f c : Addr} {cdg pm ct : Value} {params : Arguments} {body : Expr} {scope : Scope} {k i : Nat} {a : Str} {pn : List (Addr × Obj)} {xe : Value → Shared → Prop} {W : WX} {t : XK → TE} {p1 p2 : Pos} (I : Inv X pins σ H s) (L : LamX.LamS X.env.scope scope)
    (at_ : s.heap.get? f = some (lamO X params body scope pm c ct)) (nf : H f = none) (far : f ∉ frs X.stack) (none_ : bindArgs (PySem.W.kla_fn "<lambda>" (qLam X) params body scope (cloFrom X.env.cells scope.names []) pm (.ref c) ct) ⟨[], []⟩ = pure [])
    (tk : Takes ((cxOf CXg X.prog X.w X.K X.mg X.base Ng qg sg g cdg X.A X.stack s H Eg).tr pn xe) W) (room : Room (k + 1) (X.A.deeper (envOfC qg sg s.heap.objs.size g cdg))) (inside : ∀ (A : Around) (outer : List Env) (s : Shared) (H : Hp) (E : XK), Room k (A.deeper (LamX.lamEnv X scope s.heap.objs.size f c)) → PE (LamX.lamCx X A outer s H E scope f c) body (t E))
    (hN : Ng[i]? = some a) (hv : Vis sg a) (d1 : (a == ("__debug__" : Str)) = false := by decide) (d2 : (a == ("__classdict__" : Str)) = false := by decide) : PE ((cxOf CXg X.prog X.w X.K X.mg X.base Ng qg sg g cdg X.A X.stack s H Eg).tr pn xe) (.Call (.Name a p1) [] [] p2)
      (fun σZ HZ Q => ∃ E0 : XK, (∀ cls d H', E0 cls d H' → W cls d σZ H') ∧ σZ[i]? = some (some (.ref f)) ∧ HZ c = some (LamX.CodeO c (qLam X)) ∧ t E0 σ HZ Q) := by
  refine ⟨fun pinsZ sZ σZ HZ Q IZ ⟨E0, incl, slot, is, reads⟩ => wpAny_Call_Name_kw (thn ((pe_var (pos := p1) (i := i) hN hv d1 d2).run pinsZ sZ σZ HZ (fun v G => v = .ref f ∧ G = HZ) IZ ⟨.ref f, slot, rfl, rfl⟩) ?_)⟩
  rintro u s1 ⟨v, G, I1, rel, rfl, rfl⟩
  cases (show u = Value.ref f from rel)
  have un : Un (frs X.stack) [] H G s.heap s1.heap := I1.base
  have there : s1.heap.get? f = some (lamO X params body scope pm c ct) := un.keep f _ at_ nf far (fun m => absurd (show f ∈ ([] : List Addr) from m) List.not_mem_nil)
  obtain ⟨⟨oc, vs, tq, o1, o2, o3⟩, _, _⟩ := I1.hok c _ is
  refine PySem.W.callWith_F0 ⟨_, _, _, _, there⟩ (wpAny_call (codeAny_mono (R := CR (L2.CX X.prog X.w) (envOfC qg sg s.heap.objs.size g cdg :: X.stack) X.prog X.w G s1 Q E0) ?_ fun r s2 q => ?_))
  · refine PySem.W.kla_callFunE room.depth there rfl L.co L.gen rfl ⟨c, oc, vs, tq, rfl, o1, o2, o3⟩ ?_
    refine wpAny_of_eq none_ (wpAny_newFunctionEnv (fun y hy => (L.own y hy).2) (fun y hy => absurd hy List.not_mem_nil) (fun h1 ns sub => ⟨I1.nolimit.fresh _ sub, ?_⟩) L.kind)
    have keep : ∀ b o, s1.heap.get? b = some o → h1.get? b = some o := fun b o e => sub.extBut b o (Nat.ne_of_lt (Heap.lt_size e)) (Heap.get?_push_of_some _ e)
    have J := LamX.lam_start2 (A := X.A.deeper (envOfC qg sg s.heap.objs.size g cdg)) (outer := envOfC qg sg s.heap.objs.size g cdg :: X.stack) (E := E0) (f := f) (c' := c) (tk := s1.toks) I L I1.env0 room.hd un ns keep
    show codeAny _ _ (.expr body (LamX.lamEnv X scope s1.heap.objs.size f c)) _ _
    refine PySem.W.kla_codeExpr (wpAny_mono ((inside _ _ s1 G E0 (room.deeper _)).run [] _ _ G Q J reads) ?_ fun e s2 q => q)
    rintro u s2 ⟨v, G2, J2, rv, q⟩
    exact ⟨v, G2, J2.os, J2.bare, J2.base, J2.hok, rv, q⟩
  · cases r with
    | error e => exact tk e s2 (XE.of_call I1 (fun cls d H' z => incl cls d H' z) q)
    | ok fl =>
      cases fl with
      | ret u => exact I1.after q
      | next => exact absurd q id
      | brk => exact absurd q id
      | cont => exact absurd q id
/-- the def that calls what it got: TT, what it makes of the lambda's reading -/
def ActGives (X : Cx) (Ng : List Str) (x : Str) (sg : Scope) (g : Addr) (cdg : Value) (bg : List Stmt) (a : Str) (q : Str) (TT : (XK → Hp → VK → Prop) → Hp → VK → Prop) : Prop :=
  ∀ (f c : Addr) (s : Shared) (H : Hp) (Q : VK) (tl : XK → Hp → VK → Prop), (∀ (W : WX) (pn : List (Addr × Obj)) (xe : Value → Shared → Prop) (p1 p2 : Pos), Takes ((cxOf C8.CX0 X.prog X.w X.K X.mg X.base Ng x sg g cdg X.A X.stack s H C8.E0).tr pn xe) W →
      PE ((cxOf C8.CX0 X.prog X.w X.K X.mg X.base Ng x sg g cdg X.A X.stack s H C8.E0).tr pn xe) (.Call (.Name a p1) [] [] p2) (fun σZ HZ Q => ∃ E0 : XK, (∀ cls d H', E0 cls d H' → W cls d σZ H') ∧ σZ[0]? = some (some (.ref f)) ∧ HZ c = some (LamX.CodeO c q) ∧ tl E0 HZ Q)) → H c = some (LamX.CodeO c q) → TT tl H Q →
    ∃ t, PSs (cxOf C8.CX0 X.prog X.w X.K X.mg X.base Ng x sg g cdg X.A X.stack s H C8.E0).nox bg t ∧ t { nx := fun _ H' => Q .non H', rt := Q } (L2.start Ng [.ref f]) H
end
/-- action() in a suite -/
def tbAct (f c : Addr) (q : Str) (tl : XK → Hp → VK → Prop) (W : WX) : TS := fun D σ H => ∃ E0 : XK, (∀ cls d H', E0 cls d H' → W cls d σ H') ∧ σ[0]? = some (some (.ref f)) ∧ H c = some (LamX.CodeO c q) ∧ tl E0 H (fun _ H1 => D.nx σ H1)
theorem body_act {X : Cx} {a q : Str} {f c : Addr} {tl : XK → Hp → VK → Prop} {W : WX} {pn : List (Addr × Obj)} {xe : Value → Shared → Prop} {p1 p2 p3 : Pos} (act : ∀ (W : WX) (pn : List (Addr × Obj)) (xe : Value → Shared → Prop) (p1 p2 : Pos), Takes (X.tr pn xe) W →
      PE (X.tr pn xe) (.Call (.Name a p1) [] [] p2) (fun σZ HZ Q => ∃ E0 : XK, (∀ cls d H', E0 cls d H' → W cls d σZ H') ∧ σZ[0]? = some (some (.ref f)) ∧ HZ c = some (LamX.CodeO c q) ∧ tl E0 HZ Q)) (tk : Takes (X.tr pn xe) W) : PSs (X.tr pn xe) [.Expr (.Call (.Name a p1) [] [] p2) p3] (tbAct f c q tl W) := by
  refine ⟨fun pins s σ H D I h => ?_⟩
  exact (pss_one (ps_expr (pos := p3) (act W pn xe p1 p2 tk))).run pins s σ H D I h
/-- a suite, its reading found when its error is known -/
def tSuite (X : Cx) (suite : List Stmt) (a : Addr) (cls : Value) (d : Option Addr) : TS := fun D σ H => ∀ (oe : Obj) (pn : List (Addr × Obj)), Zc cls d oe → (∃ vs, oe.data = .fields vs) → ∃ t : TS, PSs (X.suite a ((a, oe) :: pn)) suite t ∧ t D σ H
theorem suite_any {X : Cx} {suite : List Stmt} {a : Addr} {cls : Value} {d : Option Addr} {oe : Obj} {pn : List (Addr × Obj)} (hz : Zc cls d oe) (hf : ∃ vs, oe.data = .fields vs) : PSs (X.suite a ((a, oe) :: pn)) suite (tSuite X suite a cls d) :=
  ⟨fun pins s σ H D I h => let ⟨_, p, k⟩ := h oe pn hz hf; p.run pins s σ H D I k⟩
section
variable [Tabl] {X : Cx}
/-- TT: what the def makes of the lambda's reading; the reading itself at the heap behind the making -/
def tLamS (TT : (XK → Hp → VK → Prop) → Hp → VK → Prop) (t : XK → TE) : TE := fun σ H Q => Good H ∧ ∀ H1, Same H H1 → TT (fun E H' Q' => t E σ H' Q') H1 Q
/-- x(lambda: body), x a def of one parameter -/
theorem pe_lam {TT : (XK → Hp → VK → Prop) → Hp → VK → Prop} {x a : Str} {g c P : Addr} {k : Nat} {st : Stmt} {fd : FuncData} {Ng : List Str} {params : Arguments} {body : Expr} {scope : Scope} {t : XK → TE} {p lpos pos : Pos} (F : Fun X.K x x st g fd) (hb : Binds X.K fd [a] []) (Sg : FnScope Ng [a] (defScope st))
    (hG : ∀ cdg, ActGives X Ng x (defScope st) g cdg (defBody st) a (qLam X) TT) (TB : LamX.TabB X.base X.mg c P) (mem : (P, qLam X) ∈ Tabl.T) (code : X.env.code = .ref c) (hr : Room (k + 2) X.A) (L : LamX.LamS X.env.scope scope) (hm : X.mg x = some (.ref g))
    (hbody : ∀ (A : Around) (outer : List Env) (s : Shared) (H : Hp) (E : XK) (f c' : Addr), Room k (A.deeper (LamX.lamEnv X scope s.heap.objs.size f c')) → PE (LamX.lamCx X A outer s H E scope f c') body (t E)) (hN : Ng[0]? = some a := by rfl) (hv : Vis (defScope st) a := by first | exact Or.inl rfl | exact Or.inr (Or.inl rfl))
    (hg : Gl X x := by rfl) (plain : defaultsOf params X.env = ([], []) := by rfl) (hbind : ∀ (q : Str) (cl : List (Str × Addr)) (pm cv ctv : Value), bindArgs (PySem.W.kla_fn "<lambda>" q params body scope cl pm cv ctv) ⟨[], []⟩ = pure [] := by intros; rfl)
    (d1 : (x == ("__debug__" : Str)) = false := by decide) (d2 : (a == ("__debug__" : Str)) = false := by decide) (d3 : (a == ("__classdict__" : Str)) = false := by decide) :
    PE X (.Call (.Name x p) [.Lambda params body scope lpos] [] pos) (tLamS TT t) := by
  obtain ⟨oc, od, kV, doc, pm, an, cdv, ct, osl, rfl, lk, cd⟩ := F.ex
  refine ⟨fun pins s σ H Q I ⟨good, h⟩ => ?_⟩
  refine wpAny_Call_Name_kw (ld_glob I hg hm (PySem.W.callWith_K (h₀ := X.base) I.ok.mod.kin F.kp ?_ (by rfl) (by rfl)) d1)
  show wpAny _ _ (spliced ((false, eval (.Lambda params body scope lpos) X.env) :: backTo pos (starEach [] X.env))) _ _ s
  refine Calls.spliced_cons (lam_made I TB code mem good L plain fun f c' pm1 ct1 H1 s1 I1 sm at_ nf far is => Calls.spliced_nil ⟨I1.kIn, ?_⟩)
  refine wpAny_call (codeAny_mono (LamX.run_ofS (CX := C8.CX0) (Q := Q) (E := C8.E0) (N := Ng) (ps := [a]) (us := [.ref f]) (vs := [.ref f]) lk cd Sg hr I1.env0 (hb s1 [.ref f] I1.kIn rfl) (.cons rfl .nil) rfl fun hr1 => ?_) fun r s2 q => ?_)
  · obtain ⟨t1, h1, h2⟩ := hG cdv f c' s1 H1 Q (fun E H' Q' => t E σ H' Q') (fun W pn xe p1 p2 tk => pe_actS (i := 0) (t := t) I1 L at_ nf far (hbind _ _ _ _ _) tk hr1 (fun A outer s H E hr2 => hbody A outer s H E f c' hr2) hN hv d2 d3) is (h H1 sm)
    exact ⟨t1, h1.nox, h2⟩
  · cases r with
    | error e => exact absurd q id
    | ok fl =>
      cases fl with
      | ret u => exact I1.after q
      | next => exact absurd q id
      | brk => exact absurd q id
      | cont => exact absurd q id
end
end Lb

namespace SetQ
open PySem PySem.Spec PyProof.Rows L2 PySem.Froz
open Sem (wp)
/-! ### sorted(set(a)) of an ascending text a -/
theorem tail_ris (ep : Nat) (es1 : Array (Int × Value)) (t2 : SetTable) (wd : Bool) (r : Ris t2.place.toList) : Ris (tailTx ep es1 t2 wd).2.2.place.toList ∧ (tailTx ep es1 t2 wd).2.2.led = t2.led := by
  unfold tailTx
  split
  · exact ⟨relayAll_ris _ _ _, relayAll_led _ _ _⟩
  · exact ⟨r, rfl⟩
theorem addTx_ris (h : Int) (v : Value) (D : SD) (r : Ris D.2.2.place.toList) : Ris (addTx h v D).2.2.place.toList ∧ (addTx h v D).2.2.led = D.2.2.led := by
  have r1 := layNew_ris D.2.2 D.1 h v r
  have l1 := layNew_led D.2.2 D.1 h v
  have mid : ∀ t : SetTable, t = (if (layNew D.2.2 D.1 h v).2.1.plain = true then { (layNew D.2.2 D.1 h v).2.1 with plain := false } else (layNew D.2.2 D.1 h v).2.1) → Ris t.place.toList ∧ t.led = D.2.2.led := by
    intro t e
    rw [e]
    split
    · exact ⟨r1, l1⟩
    · exact ⟨r1, l1⟩
  have m := mid _ rfl
  have q := tail_ris D.2.1 (layNew D.2.2 D.1 h v).1 _ (layNew D.2.2 D.1 h v).2.2.1 m.1
  exact ⟨q.1, q.2.trans m.2⟩
theorem runD_ris (w : World) : ∀ (l : List Nat) (tk : Tok) (D : SD), Ris D.2.2.place.toList → Ris (runD w l tk D).2.2.place.toList ∧ (runD w l tk D).2.2.led = D.2.2.led
  | [], _, _, r => ⟨r, rfl⟩
  | c :: l, tk, D, r => by
    have s := addTx_ris (hashStr w (sing c)) (.str (sing c) tk) D r
    have i := runD_ris w l (tk + 2) _ s.1
    exact ⟨i.1, i.2.trans s.2⟩
theorem runD_ok {P : Program} {w : World} : ∀ (l : List Nat) (tk : Tok) (D : SD) (m : List Str), TxOk P w D m → (∀ c ∈ l, sing c ∉ m) → l.Nodup → TxOk P w (runD w l tk D) (l.reverse.map sing ++ m)
  | [], _, _, _, F, _, _ => F
  | c :: l, tk, D, m, F, hn, nd => by
    obtain ⟨n1, n2⟩ := List.nodup_cons.mp nd
    have i := runD_ok l (tk + 2) _ (sing c :: m) (add_ok tk F) (fun d hd hm => ?_) n2
    · rw [List.reverse_cons, List.map_append, List.append_assoc]
      exact i
    · rcases List.mem_cons.mp hm with q | q
      · have e : [d] = [c] := congrArg (fun y : Str => y.cps.toList) q
        rw [(List.cons.inj e).1] at hd
        exact n1 hd
      · exact hn d (List.mem_cons_of_mem _ hd) q
section
variable {P : Program} {w : World} {A : Around} {E : Value → Shared → Prop} {s : Shared}
def freshT (w : World) : SetTable := .fresh 0 0 (!w.params.followText "set-order")
def setObj0 (w : World) : Obj := { cls := .type "set", dict := none, data := .set #[] 0 (freshT w) }
theorem new_set1 (a : Value) {Q₁ : Value → Shared → Prop} (h : Q₁ (.ref s.heap.objs.size) { s with heap := s.heap.push (setObj0 w) }) :
    codeAny (model P w) A (.call (.builtin "set.__new__") ⟨[.type "set", a], []⟩) (wants Q₁ E) s := by
  refine codeAny_of_tree ?_
  show wpAny _ A.in1 (do checkBuiltinCall "set.__new__" ⟨[.type "set", a], []⟩; again (.builtin "set.__new__" ⟨[.type "set", a], []⟩)) _ _ s
  refine wpAny_bind (wpAny_of_eq (F.newCall_set_1 a) (wpAny_pure ⟨plainId_quiet F.plain_set_new _, codeAny_builtin F.entry_set_new ?_⟩))
  rw [Around.under_plainId F.plain_set_new _]
  unfold Builtin.«set.__new__» Builtin.Frozenset.newClass
  have isS := sub_set_self
  obtain ⟨hp, g, d, tk, os⟩ := s
  dsimp only
  wp_walk
  refine wpAny_askSetting (wpAny_pure ?_)
  dsimp only
  simp only [newObj]
  exact wpAny_bind (wpAny_alloc (wpAny_pure (wpAny_pure h)))
set_option maxHeartbeats 3200000 in
/-- set(x), x a text of unlike ascii signs: its payload; what stood stands -/
theorem call_setT {x : Str} {u : Tok} {Q : Value → Shared → Prop} (hh : A.handled = none) (asc : x.cps.all (· < 128) = true) (nd : x.cps.toList.Nodup) (hb : x.cps.toList.length < scanBound)
    (h : ∀ (h' : Heap) (tk : Nat) (D : SD), h'.get? s.heap.objs.size = some (sObj "set" D) → TxOk P w D (x.cps.toList.reverse.map sing) → Ris D.2.2.place.toList → D.2.2.led = (!w.params.followText "set-order") →
      (∀ b o, s.heap.get? b = some o → h'.get? b = some o) → Q (.ref s.heap.objs.size) { s with heap := h', toks := tk }) :
    wpAny (model P w) A (call (.type "set") [.str x u]) Q E s := by
  obtain ⟨c, tl, hmro⟩ := F.called_set.mro
  have hmade := F.called_set.made
  have hsub := F.called_set.sub
  refine wpAny_call (codeAny_of_tree ?_)
  show wpAny _ _ (callAny (.type "set") _) _ _ _
  refine wpAny_pure ⟨Code.quiet_builtin _ (by decide +kernel), codeAny_builtin F.entry_type_call ?_⟩
  rw [Around.under_plain (weight_type_call_type "set" [.str x u] []) rfl]
  have n1 := F.called_set.notType
  have n2 := F.called_set.canCreate
  have n3 := F.typeCall_set_1 (.str x u)
  repeat (any_goals (first | assumption | wp_step))
  refine codeAny_mono (new_set1 (.str x u) (E := E) (Q₁ := fun obj s₁ => obj = .ref s.heap.objs.size ∧ s₁ = { s with heap := s.heap.push (setObj0 w) }) ⟨rfl, rfl⟩) fun r s₁ hr => ?_
  cases r with
  | error e => exact hr
  | ok fl =>
    cases fl with
    | ret obj =>
      obtain ⟨rfl, rfl⟩ := hr
      have at0 : (s.heap.push (setObj0 w)).get? s.heap.objs.size = some (setObj0 w) := Heap.get?_push_size _ rfl
      have ty0 : Shared.TypeIs { s with heap := s.heap.push (setObj0 w) } (.ref s.heap.objs.size) "set" := ⟨_, at0, rfl⟩
      have hli := F.called_set.init.lookup
      have hbi := F.called_set.init.bind (.ref s.heap.objs.size)
      repeat (any_goals (first | assumption | wp_step))
      refine codeAny_mono (codeAny_call_builtin (R := wants (fun r s₂ => r = .none ∧ ∃ h' tk D, s₂ = { s with heap := h', toks := tk } ∧ h'.get? s.heap.objs.size = some (sObj "set" D) ∧ TxOk P w D (x.cps.toList.reverse.map sing) ∧ Ris D.2.2.place.toList ∧
          D.2.2.led = (!w.params.followText "set-order") ∧ ∀ b o, s.heap.get? b = some o → h'.get? b = some o) E) F.called_set.init.plain F.entry_set_init (check_set_init_1 ty0 ?_)) fun r₂ s₂ hr₂ => ?_
      · have z1 := F.sub_str_set
        have z2 := F.sub_str_frozenset
        have z3 : (Value.type "str" == Value.type "dict") = false := by decide
        unfold Builtin.«set.__init__» noKeywords Builtin.Frozenset.updateFrom
        generalize hPI : pyIter = PI
        wp_walk
        subst hPI
        refine wpAny_pyIter_ascii asc ?_
        refine wpAny_bind (wpAny_runValue ?_)
        have lt0 : s.heap.objs.size < (s.heap.push (setObj0 w)).objs.size := by
          rw [Heap.size_push]
          exact Nat.lt_succ_self _
        have ne0 : s.heap.objs.size ≠ (s.heap.push (setObj0 w)).objs.size := Nat.ne_of_lt lt0
        have hA : A.in1.in1.handled = none := hh
        refine code_update (P := P) (a := s.heap.objs.size) (it := (s.heap.push (setObj0 w)).objs.size) ne0 (T := "set") (x := x) (u := u) hA x.cps.toList 0 (#[], 0, freshT w) [] _ rfl ?_ ?_ (TxOk.nil (by rfl)) (fun c _ m => absurd m List.not_mem_nil) nd ?_ ?_
        · exact Heap.get?_push_of_some _ at0
        · exact Heap.get?_push_size _ rfl
        · show 0 + x.cps.toList.length < scanBound
          omega
        · have ris0 : Ris (freshT w).place.toList := List.Pairwise.nil
          have rr := runD_ris w x.cps.toList s.toks (#[], 0, freshT w) ris0
          have ok := runD_ok (P := P) (w := w) x.cps.toList s.toks (#[], 0, freshT w) [] (TxOk.nil (by rfl)) (fun c _ m => absurd m List.not_mem_nil) nd
          rw [List.append_nil] at ok
          generalize runD w x.cps.toList s.toks (#[], 0, freshT w) = D at *
          show wpAny _ _ _ _ _ _
          refine wpAny_pure ?_
          show wpAny _ _ (ret Value.none) _ _ _
          refine wpAny_pure ⟨rfl, _, _, D, rfl, ?_, ok, rr.1, rr.2, fun b o e => ?_⟩
          · refine Heap.get?_push_of_some _ (Heap.get?_push_of_some _ ?_)
            refine PySem.Heap.get?_update_of_ne _ (Ne.symm ne0) ?_
            exact get_upd _ (Heap.get?_push_of_some _ at0) rfl
          · have lb : b < s.heap.objs.size := Heap.lt_size e
            refine Heap.get?_push_of_some _ (Heap.get?_push_of_some _ ?_)
            refine PySem.Heap.get?_update_of_ne _ (Nat.ne_of_gt (Nat.lt_trans lb lt0)) ?_
            refine PySem.Heap.get?_update_of_ne _ (Nat.ne_of_gt lb) ?_
            exact Heap.get?_push_of_some _ (Heap.get?_push_of_some _ e)
      · cases r₂ with
        | error e => exact hr₂
        | ok fl₂ =>
          cases fl₂ with
          | ret r =>
            obtain ⟨rfl, h', tk, D, rfl, g1, g2, g3, g4, g5⟩ := hr₂
            repeat (any_goals (first | assumption | wp_step))
            exact h _ _ D g1 g2 g3 g4 g5
          | _ => exact hr₂.elim
    | _ => exact hr.elim
end
end SetQ

namespace SetQ
open PySem PySem.Spec PyProof.Rows L2 PySem.Froz
open Sem (wp)
section
variable {P : Program} {w : World} {A : Around} {E : Value → Shared → Prop} {s : Shared}
theorem nodup_perm {α : Type} [DecidableEq α] : ∀ {l ws : List α}, l.Nodup → (∀ k ∈ l, k ∈ ws) → ws.length = l.length → ws.Perm l
  | [], ws, _, _, hl => by
    have : ws = [] := List.length_eq_zero_iff.mp hl
    rw [this]
  | k :: l, ws, nd, sub, hl => by
    obtain ⟨n1, n2⟩ := List.nodup_cons.mp nd
    have hk := sub k List.mem_cons_self
    have ih := nodup_perm (l := l) (ws := ws.erase k) n2 (fun x hx => ?_) (by rw [List.length_erase_of_mem hk, hl]; rfl)
    · exact (List.perm_cons_erase hk).trans (ih.cons k)
    · have hne : x ≠ k := fun e => n1 (e ▸ hx)
      exact (List.mem_erase_of_ne hne).mpr (sub x (List.mem_cons_of_mem _ hx))
/-- the keys of such a payload, as texts -/
theorem payload_strs {D : SD} {l : List Str} (F : TxOk P w D l) (nd : l.Nodup) : ∃ ws : List Str, StrsAre (D.1.toList.map (·.2)) ws ∧ ws.Perm l := by
  have key : ∀ es : List (Int × Value), ElemsOf (strKind P w) es → ∃ ws : List Str, StrsAre (es.map (·.2)) ws ∧ ws.length = es.length ∧ ∀ k : Str, (∃ e ∈ es, (strKind P w).is k e.2 = true) → k ∈ ws := by
    intro es
    induction es with
    | nil => exact fun _ => ⟨[], .nil, rfl, fun k ⟨e, he, _⟩ => absurd he List.not_mem_nil⟩
    | cons e es ih =>
      intro g
      obtain ⟨ws, h1, h2, h3⟩ := ih g.tail
      obtain ⟨⟨k, hk, _⟩, _⟩ := g.head
      obtain ⟨t, et⟩ := Value.isStrOf_shape (show Value.isStrOf k e.2 = true from hk)
      refine ⟨k :: ws, ?_, by rw [List.length_cons, List.length_cons, h2], fun k' ⟨e', he', hk'⟩ => ?_⟩
      · rw [List.map_cons, et]
        exact .cons k t h1
      · rcases List.mem_cons.mp he' with rfl | he'
        · obtain ⟨t', et'⟩ := Value.isStrOf_shape (show Value.isStrOf k' e'.2 = true from hk')
          rw [et] at et'
          injection et' with e1
          rw [e1]
          exact List.mem_cons_self
        · exact List.mem_cons_of_mem _ (h3 k' ⟨e', he', hk'⟩)
  obtain ⟨ws, h1, h2, h3⟩ := key D.1.toList F.el
  refine ⟨ws, h1, nodup_perm nd (fun k hk => h3 k ((F.mem k).mp hk)) ?_⟩
  rw [h2, Array.length_toList]
  exact F.sz
theorem sorted_setT {D : SD} {a : Addr} {l : List Str} {Q : Value → Shared → Prop} (ha : s.heap.get? a = some (sObj "set" D)) (F : TxOk P w D l) (nd : l.Nodup) (r : Ris D.2.2.place.toList) (hl : D.2.2.led = (!w.params.followText "set-order")) (hh : A.handled = none) (h64 : l.length < 64)
    (hQ : ∀ s' p (out : Array Value) (c : Nat) (ws : List Str), (∀ b o, s.heap.get? b = some o → s'.heap.get? b = some o) → s'.gens = s.gens → s'.os = s.os → s.heap.objs.size ≤ p →
      s'.heap.get? p = some (seqObj "list" out c) → StrsAre out.toList ws → sortedS ws = true → ws.Perm l → Q (.ref p) s') :
    wpAny (model P w) A (call (.builtin "sorted") [.ref a]) Q E s := by
  obtain ⟨es, ep, t⟩ := D
  obtain ⟨ws, hS, pw⟩ := payload_strs F nd
  have hsz : es.size = l.length := F.sz
  have led : w.params.followText "set-order" = true ∨ t.led = true := by
    have hl' : t.led = (!w.params.followText "set-order") := hl
    cases e : w.params.followText "set-order" with
    | true => exact .inl rfl
    | false =>
      rw [e] at hl'
      exact .inr hl'
  refine Calls.call_function_entry kind_sorted plain_sorted entry_sorted (args_sorted1 _) ?_
  unfold Builtin.«sorted»
  refine wpAny_bind (m := checkCount "sorted" 1 1 _) (wpAny_pure ?_)
  refine wpAny_bind (collect_set (A := A.in1) (a := a) (es := es) (ep := ep) (t := t) hh ⟨_, ha, rfl, rfl⟩ F.fit (by rw [hsz]; unfold scanBound; omega) r led fun s1 vs k1 hz g1 o1 pm => ?_)
  have vl : vs.length = l.length := by rw [pm.length_eq, List.length_map, Array.length_toList]; exact hsz
  -- what was collected, as texts
  have toS : ∀ {us vs : List Value}, us.Perm vs → ∀ {ws : List Str}, StrsAre vs ws → ∃ ws', StrsAre us ws' ∧ ws'.Perm ws := by
    intro us vs p
    induction p with
    | nil => exact fun {ws} h => ⟨ws, h, .refl _⟩
    | cons x _ ih =>
      intro ws h
      cases h with
      | cons y t h =>
        obtain ⟨ws', q1, q2⟩ := ih h
        exact ⟨y :: ws', .cons y t q1, q2.cons y⟩
    | swap x y l =>
      intro ws h
      cases h with
      | cons y1 t1 h =>
        cases h with
        | cons y2 t2 h => exact ⟨y2 :: y1 :: _, .cons y2 t2 (.cons y1 t1 h), .swap ..⟩
    | trans _ _ ih1 ih2 =>
      intro ws h
      obtain ⟨w1, q1, q2⟩ := ih2 h
      obtain ⟨w2, q3, q4⟩ := ih1 q1
      exact ⟨w2, q3, q4.trans q2⟩
  obtain ⟨us, hU, pU⟩ := toS pm hS
  refine wpAny_bind (wpAny_newList ?_ (by rw [vl, sizeLine_eq]; omega))
  have at1 : (s1.heap.push (seqObj "list" vs.toArray 0)).get? s1.heap.objs.size = some (seqObj "list" vs.toArray 0) := Heap.get?_push_size _ rfl
  refine wpAny_bind (wpAny_holding (wpAny_call_entry slot_list_sort ⟨_, at1, rfl⟩ entry_list_sort (list_sort_treeK strKind_oneLt at1 hU.keysOf (fun v₁ v₂ rest e => keyKind_strs (by rw [← e]; exact hU)) (by rw [vl]; exact h64) fun st' hp hs => ⟨_, rfl, ?_⟩) (args_list_sort _)))
  obtain ⟨ss', q1, q2, q3⟩ := sorted_out_str hU hp hs
  obtain ⟨c, hc⟩ := sortedHeap_at (vs := vs) (out := (arrOf st').map (·.2)) at1
  refine wpAny_pure ⟨_, rfl, hQ _ s1.heap.objs.size _ c ss' (fun b u e => ?_) g1 o1 hz hc q1 q3 ((q2.trans pU).trans pw)⟩
  have q := k1 b u e
  have hlt := Heap.lt_size q
  refine (sortedHeap_old (Nat.ne_of_lt hlt) (by rw [size_push']; exact Nat.lt_succ_of_lt hlt)).trans ?_
  exact Heap.get?_push_of_some _ q
end
/-- the set of the texts l at a, as its text was walked -/
def SetTx (P : Program) (w : World) (a : Addr) (l : List Str) : HO := .ext fun h => ∃ D, h.get? a = some (sObj "set" D) ∧ TxOk P w D l ∧ Ris D.2.2.place.toList ∧ D.2.2.led = (!w.params.followText "set-order")
section
variable {X : Cx}
/-- set(x) -/
def rSetT (P : Program) (w : World) : List V → Hp → VK → Prop := fun vs H Q => ∃ x : Str, vs = [.str x] ∧ x.cps.all (· < 128) = true ∧ x.cps.toList.Nodup ∧ x.cps.toList.length < 64 ∧ ∀ p, H p = none → Q (.ref p) (upd H p (SetTx P w p (x.cps.toList.reverse.map sing)))
theorem cr_setT (hc : X.calm = true) : CallR X (.type "set") (rSetT X.prog X.w) := by
  intro pins s σ H vs us Q I r h
  obtain ⟨x, rfl, asc, nd, len, q⟩ := h
  obtain ⟨u, rfl, r0⟩ : ∃ u, us = [u] ∧ RelV (.str x) u := by
    cases r with
    | cons a b => cases b; exact ⟨_, rfl, a⟩
  obtain ⟨t, rfl⟩ := r0
  refine call_setT (I.ok.hd hc) asc nd (Nat.lt_of_lt_of_le len (by unfold scanBound; decide)) fun h' tk D g1 g2 g3 g4 k => ?_
  have w1 : ∃ D, h'.get? s.heap.objs.size = some (sObj "set" D) ∧ TxOk X.prog X.w D (x.cps.toList.reverse.map sing) ∧ Ris D.2.2.place.toList ∧ D.2.2.led = (!X.w.params.followText "set-order") := ⟨D, g1, g2, g3, g4⟩
  have hn : H s.heap.objs.size = none := I.hok.fresh (Nat.le_refl _)
  exact ⟨.ref _, upd H s.heap.objs.size (SetTx X.prog X.w s.heap.objs.size (x.cps.toList.reverse.map sing)), I.laid k (Nat.le_refl _) ⟨w1, ⟨_, g1⟩, fun _ _ ⟨D, e, r⟩ st => ⟨D, st _ e, r⟩⟩, rfl, q _ hn⟩
/-- sorted(found) -/
def rSortedTx (P : Program) (w : World) : List V → Hp → VK → Prop := fun vs H Q => ∃ (a : Addr) (l : List Str), vs = [.ref a] ∧ H a = some (SetTx P w a l) ∧ l.Nodup ∧ l.length < 64 ∧ ∀ (ws : List Str) (p : Addr), sortedS ws = true → ws.Perm l → H p = none → Q (.ref p) (upd H p (.lst (ws.map V.str)))
theorem vals_of_strs : ∀ {us : List Value} {xs : List Str}, StrsAre us xs → Vals (xs.map V.str) us
  | _, _, .nil => .nil
  | _, _, .cons x t h => .cons ⟨t, rfl⟩ (vals_of_strs h)
theorem cr_sortedTx (hc : X.calm = true) : CallR X (.builtin "sorted") (rSortedTx X.prog X.w) := by
  intro pins s σ H vs us Q I r h
  obtain ⟨a, l, rfl, ha, nd, len, q⟩ := h
  obtain ⟨D, e1, e2, e3, e4⟩ := (I.hok a _ ha).1
  rw [Vals.ref1 r]
  refine sorted_setT e1 e2 nd e3 e4 (I.ok.hd hc) len fun s' p out c ws k g o hp at_ its srt perm => ?_
  have hn : H p = none := I.hok.fresh hp
  have size : (ws.map V.str).length ≤ sizeLine := by
    rw [List.length_map, perm.length_eq, sizeLine_eq]
    omega
  have J : Inv X pins σ (upd H p (.lst (ws.map V.str))) { s with heap := s'.heap, gens := s'.gens, drawn := s'.drawn, toks := s'.toks } := by
    refine I.call (ch := []) (Un.laid k hp hn) (I.hok.laid k hp ?_) ?_ ?_
    · exact ⟨size, out.toList, c, vals_of_strs its, at_⟩
    · rw [g]
      exact I.bare
    · exact fun _ z => absurd z List.not_mem_nil
  rw [GxR.sh_eta s s' o] at J
  exact ⟨.ref p, _, J, rfl, q ws p srt perm hn⟩
end
/-! ### one-sign texts, sorted -/
theorem le_unique : ∀ {a b : List Nat}, a.Perm b → a.Pairwise (· ≤ ·) → b.Pairwise (· ≤ ·) → a = b
  | [], b, p, _, _ => p.nil_eq
  | x :: a, [], p, _, _ => absurd p.symm.nil_eq (by simp)
  | x :: a, y :: b, p, ha, hb => by
    obtain ⟨a1, a2⟩ := List.pairwise_cons.mp ha
    obtain ⟨b1, b2⟩ := List.pairwise_cons.mp hb
    have xy : x = y := by
      have h1 : x ∈ y :: b := p.mem_iff.mp List.mem_cons_self
      have h2 : y ∈ x :: a := p.mem_iff.mpr List.mem_cons_self
      rcases List.mem_cons.mp h1 with e | e
      · exact e
      · rcases List.mem_cons.mp h2 with k | k
        · exact k.symm
        · exact Nat.le_antisymm (a1 y k) (b1 x e)
    subst xy
    rw [le_unique p.cons_inv a2 b2]
theorem rising_sing : ∀ (r : List Nat) (p : Nat), risingS (sing p) (r.map sing) = true → (∀ d ∈ r, p ≤ d) ∧ r.Pairwise (· ≤ ·)
  | [], p, _ => ⟨fun d h => absurd h List.not_mem_nil, .nil⟩
  | x :: r, p, h => by
    have h' : (!ltCps [x] [p] && risingS (sing x) (r.map sing)) = true := h
    rw [Bool.and_eq_true] at h'
    have px : p ≤ x := by
      have e := h'.1
      unfold ltCps at e
      by_cases g : p ≤ x
      · exact g
      · have lt : x < p := by omega
        simp [lt] at e
    obtain ⟨h1, h2⟩ := rising_sing r x h'.2
    refine ⟨fun d hd => ?_, List.pairwise_cons.mpr ⟨h1, h2⟩⟩
    rcases List.mem_cons.mp hd with e | e
    · rw [e]
      exact px
    · exact Nat.le_trans px (h1 d e)
theorem sorted_sing {l : List Nat} {ws : List Str} (s : sortedS ws = true) (p : ws.Perm (l.map sing)) : ∃ ds : List Nat, ws = ds.map sing ∧ ds.Perm l ∧ ds.Pairwise (· ≤ ·) := by
  have e : ws = (ws.map fun y : Str => y.cps.toList.headD 0).map sing := by
    rw [List.map_map]
    refine (List.map_id ws).symm.trans (List.map_congr_left fun y hy => ?_)
    obtain ⟨c, _, ec⟩ := List.mem_map.mp (p.mem_iff.mp hy)
    rw [← ec]
    rfl
  have q : (ws.map fun y : Str => y.cps.toList.headD 0).Perm l := by
    have := p.map fun y : Str => y.cps.toList.headD 0
    rw [List.map_map] at this
    have id' : (l.map ((fun y : Str => y.cps.toList.headD 0) ∘ sing)) = l := by
      refine (List.map_congr_left fun c _ => ?_).trans (List.map_id l)
      rfl
    rw [id'] at this
    exact this
  refine ⟨_, e, q, ?_⟩
  generalize (ws.map fun y : Str => y.cps.toList.headD 0) = ds at e
  rw [e] at s
  cases ds with
  | nil => exact .nil
  | cons x r =>
    obtain ⟨h1, h2⟩ := rising_sing r x s
    exact List.pairwise_cons.mpr ⟨h1, h2⟩
/-- ascending signs, sorted: the signs as they stand -/
theorem sorted_asc {l : List Nat} {ws : List Str} (a : l.Pairwise (· < ·)) (s : sortedS ws = true) (p : ws.Perm (l.reverse.map sing)) : ws = l.map sing := by
  obtain ⟨ds, e, q, h⟩ := sorted_sing s p
  rw [e, le_unique (q.trans l.reverse_perm) h (a.imp fun h => Nat.le_of_lt h)]
end SetQ

namespace SetQ
open PySem PySem.Spec PyProof.Rows L2 PySem.Froz
open Sem (wp)
/-! ### set(a) of any ascii text a, its signs now and then again -/
section
variable {P : Program} {w : World} {A : Around} {E : Value → Shared → Prop} {s : Shared}
/-- what is in the set is not put in again -/
theorem add_old {a : Addr} {T : String} {D : SD} {l : List Str} {k : Str} {u : Tok} {Q : Bool → Shared → Prop} (ho : s.heap.get? a = some (sObj T D)) (F : TxOk P w D l) (hk : k ∈ l) (hb : l.length < scanBound)
    (h : Q false s) : wpAny (model P w) A (setAddHashed a (.str k u) (hashStr w k)) Q E s := by
  obtain ⟨es, ep, t⟩ := D
  have hd : (sObj T (es, ep, t)).data = .set es ep t := rfl
  have hf : t.fits es.size = true := F.fit
  have hel : ElemsOf (strKind P w) es.toList := F.el
  have hsz : es.size = l.length := F.sz
  have hb0 : es.size < scanBound := by omega
  have hkey : (strKind P w).is k (.str k u) = true := is_str k u
  obtain ⟨j, hj⟩ : ∃ j, List.findIdx? (fun e => (strKind P w).is k e.2) es.toList = some j := by
    cases hr : List.findIdx? (fun e => (strKind P w).is k e.2) es.toList with
    | some j => exact ⟨j, rfl⟩
    | none =>
      obtain ⟨e, he, hp⟩ := (F.mem k).mp hk
      have := List.findIdx?_eq_none_iff.mp hr e he
      rw [this] at hp
      cases hp
  unfold setAddHashed setAddHashedIn
  refine wpAny_holding (wpAny_bind (wpAny_setState_of ho hd hf ?_))
  dsimp only
  rw [byScan_of rfl hb0 hel]
  simp only [↓reduceIte]
  unfold setAddByScan
  refine wpAny_bind ?_
  refine wpAny_bind (wpAny_rule ?_)
  refine wpAny_bind (wpAny_setScan_of (knd := strKind P w) (k := k) hkey ho hd hf hel ?_)
  rw [hj]
  dsimp only
  exact wpAny_pure (wpAny_pure h)
end
section
variable {P : Program} {w : World} {A : Around} {R : Result → Shared → Prop}
/-- the rest of a text's signs into the set, new ones and old ones -/
theorem code_update2 {a it : Addr} (hne : a ≠ it) {T : String} {x : Str} {u : Tok} (hh : A.handled = none) : ∀ (cs : List Nat) (i : Nat) (D : SD) (l : List Str) (s : Shared), x.cps.toList.drop i = cs →
    s.heap.get? a = some (sObj T D) → s.heap.get? it = some (itObj x u i) → TxOk P w D l → l.Nodup → Ris D.2.2.place.toList → l.length + cs.length < scanBound →
    (∀ (h' : Heap) (tk : Nat) (D' : SD) (l' : List Str), (∀ b o, b ≠ a → b ≠ it → s.heap.get? b = some o → h'.get? b = some o) → h'.get? a = some (sObj T D') → TxOk P w D' l' → l'.Nodup → Ris D'.2.2.place.toList → D'.2.2.led = D.2.2.led →
      (∀ k, k ∈ l' ↔ k ∈ l ∨ ∃ c ∈ cs, k = sing c) → l'.length ≤ l.length + cs.length → R (.ok (.ret .none)) { s with heap := h', toks := tk }) →
    codeAny (model P w) A (.builtin "set.update.loop" ⟨[.ref a, .ref it], []⟩) R s
  | [], i, D, l, s, hd, ha, hit, F, nd, ris, _, h => by
    refine codeAny_builtin PyProof.Rows.F.entry_set_update_loop ?_
    rw [Around.under_plainId PyProof.Rows.F.plain_set_update_loop _]
    show wpAny _ A.in1 (pyNext (.ref it) >>= _) _ _ s
    refine wpAny_bind (end_x (u := u) (by exact hh) hit (at_end hd) ?_)
    show wpAny _ A.in1 (ret Value.none) _ _ _
    refine wpAny_pure ?_
    refine h (endHeap s.heap it i) s.toks D l (fun b o ha' hi' e => ?_) ?_ F nd ris rfl (fun k => ⟨.inl, fun q => ?_⟩) (by simp)
    · unfold endHeap
      exact Heap.get?_push_of_some _ (Heap.get?_push_of_some _ (PySem.Heap.get?_update_of_ne _ (Ne.symm hi') e))
    · unfold endHeap
      exact Heap.get?_push_of_some _ (Heap.get?_push_of_some _ (PySem.Heap.get?_update_of_ne _ (Ne.symm hne) ha))
    · rcases q with q | ⟨c, hc, _⟩
      · exact q
      · cases hc
  | c :: r, i, D, l, s, hd, ha, hit, F, nd, ris, hb, h => by
    obtain ⟨hx, hd2⟩ := at_of hd
    have hb2 : l.length + (r.length + 1) < scanBound := hb
    refine codeAny_builtin PyProof.Rows.F.entry_set_update_loop ?_
    rw [Around.under_plainId PyProof.Rows.F.plain_set_update_loop _]
    show wpAny _ A.in1 (pyNext (.ref it) >>= _) _ _ s
    refine wpAny_bind (next_x (u := u) hit hx ?_)
    show wpAny _ A.in1 (holding [Value.str (sing c) s.toks] (setAdd a (.str (sing c) s.toks)) >>= _) _ _ _
    refine wpAny_bind (wpAny_holding ?_)
    unfold setAdd
    refine wpAny_holding ?_
    refine wpAny_bind ((strKind P w).pyHash (k := sing c) (is_str _ _) ?_)
    have ha1 : (s.heap.update it (fun _ => itObj x u (i + 1))).get? a = some (sObj T D) := PySem.Heap.get?_update_of_ne _ (Ne.symm hne) ha
    have hit1 : (s.heap.update it (fun _ => itObj x u (i + 1))).get? it = some (itObj x u (i + 1)) := get_upd _ hit rfl
    by_cases hcl : sing c ∈ l
    · refine add_old (l := l) (D := D) (s := { s with heap := s.heap.update it (fun _ => itObj x u (i + 1)), toks := s.toks + 1 + 1 }) ha1 F hcl (by omega) ?_
      refine wpAny_pure ⟨plainId_quiet PyProof.Rows.F.plain_set_update_loop _, code_update2 hne hh r (i + 1) _ l _ hd2 ha1 hit1 F nd ris (by omega) fun h' tk D' l' k1 k2 k3 k4 k5 k6 k7 k8 => ?_⟩
      refine h h' tk D' l' (fun b o n1 n2 e => k1 b o n1 n2 (PySem.Heap.get?_update_of_ne _ (Ne.symm n2) e)) k2 k3 k4 k5 k6 (fun k => ?_) (by simp only [List.length_cons]; omega)
      rw [k7]
      constructor
      · rintro (q | ⟨d, hd, e⟩)
        · exact .inl q
        · exact .inr ⟨d, List.mem_cons_of_mem _ hd, e⟩
      · rintro (q | ⟨d, hd, e⟩)
        · exact .inl q
        · rcases List.mem_cons.mp hd with q | q
          · subst q
            subst e
            exact .inl hcl
          · exact .inr ⟨d, q, e⟩
    · refine add_x (l := l) (D := D) (s := { s with heap := s.heap.update it (fun _ => itObj x u (i + 1)), toks := s.toks + 1 + 1 }) ha1 F hcl (by omega) ?_
      have ha2 : ((s.heap.update it (fun _ => itObj x u (i + 1))).update a (fun _ => sObj T (addTx (hashStr w (sing c)) (.str (sing c) s.toks) D))).get? a = some (sObj T (addTx (hashStr w (sing c)) (.str (sing c) s.toks) D)) := get_upd _ ha1 rfl
      have hit2 : ((s.heap.update it (fun _ => itObj x u (i + 1))).update a (fun _ => sObj T (addTx (hashStr w (sing c)) (.str (sing c) s.toks) D))).get? it = some (itObj x u (i + 1)) := PySem.Heap.get?_update_of_ne _ hne hit1
      have rr := addTx_ris (hashStr w (sing c)) (.str (sing c) s.toks) D ris
      refine wpAny_pure ⟨plainId_quiet PyProof.Rows.F.plain_set_update_loop _, code_update2 hne hh r (i + 1) _ (sing c :: l) _ hd2 ha2 hit2 (add_ok s.toks F) (List.nodup_cons.mpr ⟨hcl, nd⟩) rr.1 (by show l.length + 1 + r.length < scanBound; omega)
        fun h' tk D' l' k1 k2 k3 k4 k5 k6 k7 k8 => ?_⟩
      refine h h' tk D' l' (fun b o n1 n2 e => k1 b o n1 n2 (PySem.Heap.get?_update_of_ne _ (Ne.symm n1) (PySem.Heap.get?_update_of_ne _ (Ne.symm n2) e))) k2 k3 k4 k5 (k6.trans rr.2) (fun k => ?_) (by simp only [List.length_cons] at *; omega)
      rw [k7]
      constructor
      · rintro (q | ⟨d, hd, e⟩)
        · rcases List.mem_cons.mp q with q | q
          · exact .inr ⟨c, List.mem_cons_self .., q⟩
          · exact .inl q
        · exact .inr ⟨d, List.mem_cons_of_mem _ hd, e⟩
      · rintro (q | ⟨d, hd, e⟩)
        · exact .inl (List.mem_cons_of_mem _ q)
        · rcases List.mem_cons.mp hd with q | q
          · subst q
            subst e
            exact .inl (List.mem_cons_self ..)
          · exact .inr ⟨d, q, e⟩
end
section
variable {P : Program} {w : World} {A : Around} {E : Value → Shared → Prop} {s : Shared}
set_option maxHeartbeats 3200000 in
/-- set(x), x a text of ascii signs: its payload; what stood stands -/
theorem call_setT2 {x : Str} {u : Tok} {Q : Value → Shared → Prop} (hh : A.handled = none) (asc : x.cps.all (· < 128) = true) (hb : x.cps.toList.length < scanBound)
    (h : ∀ (h' : Heap) (tk : Nat) (D : SD) (l : List Str), h'.get? s.heap.objs.size = some (sObj "set" D) → TxOk P w D l → Ris D.2.2.place.toList → D.2.2.led = (!w.params.followText "set-order") → l.Nodup → (∀ k, k ∈ l ↔ ∃ c ∈ x.cps.toList, k = sing c) → l.length ≤ x.cps.toList.length →
      (∀ b o, s.heap.get? b = some o → h'.get? b = some o) → Q (.ref s.heap.objs.size) { s with heap := h', toks := tk }) :
    wpAny (model P w) A (call (.type "set") [.str x u]) Q E s := by
  obtain ⟨c, tl, hmro⟩ := F.called_set.mro
  have hmade := F.called_set.made
  have hsub := F.called_set.sub
  refine wpAny_call (codeAny_of_tree ?_)
  show wpAny _ _ (callAny (.type "set") _) _ _ _
  refine wpAny_pure ⟨Code.quiet_builtin _ (by decide +kernel), codeAny_builtin F.entry_type_call ?_⟩
  rw [Around.under_plain (weight_type_call_type "set" [.str x u] []) rfl]
  have n1 := F.called_set.notType
  have n2 := F.called_set.canCreate
  have n3 := F.typeCall_set_1 (.str x u)
  repeat (any_goals (first | assumption | wp_step))
  refine codeAny_mono (new_set1 (.str x u) (E := E) (Q₁ := fun obj s₁ => obj = .ref s.heap.objs.size ∧ s₁ = { s with heap := s.heap.push (setObj0 w) }) ⟨rfl, rfl⟩) fun r s₁ hr => ?_
  cases r with
  | error e => exact hr
  | ok fl =>
    cases fl with
    | ret obj =>
      obtain ⟨rfl, rfl⟩ := hr
      have at0 : (s.heap.push (setObj0 w)).get? s.heap.objs.size = some (setObj0 w) := Heap.get?_push_size _ rfl
      have ty0 : Shared.TypeIs { s with heap := s.heap.push (setObj0 w) } (.ref s.heap.objs.size) "set" := ⟨_, at0, rfl⟩
      have hli := F.called_set.init.lookup
      have hbi := F.called_set.init.bind (.ref s.heap.objs.size)
      repeat (any_goals (first | assumption | wp_step))
      refine codeAny_mono (codeAny_call_builtin (R := wants (fun r s₂ => r = .none ∧ ∃ h' tk D l, s₂ = { s with heap := h', toks := tk } ∧ h'.get? s.heap.objs.size = some (sObj "set" D) ∧ TxOk P w D l ∧ l.Nodup ∧ (∀ k, k ∈ l ↔ ∃ c ∈ x.cps.toList, k = sing c) ∧ l.length ≤ x.cps.toList.length ∧ Ris D.2.2.place.toList ∧
          D.2.2.led = (!w.params.followText "set-order") ∧ ∀ b o, s.heap.get? b = some o → h'.get? b = some o) E) F.called_set.init.plain F.entry_set_init (check_set_init_1 ty0 ?_)) fun r₂ s₂ hr₂ => ?_
      · have z1 := F.sub_str_set
        have z2 := F.sub_str_frozenset
        have z3 : (Value.type "str" == Value.type "dict") = false := by decide
        unfold Builtin.«set.__init__» noKeywords Builtin.Frozenset.updateFrom
        generalize hPI : pyIter = PI
        wp_walk
        subst hPI
        refine wpAny_pyIter_ascii asc ?_
        refine wpAny_bind (wpAny_runValue ?_)
        have lt0 : s.heap.objs.size < (s.heap.push (setObj0 w)).objs.size := by
          rw [Heap.size_push]
          exact Nat.lt_succ_self _
        have ne0 : s.heap.objs.size ≠ (s.heap.push (setObj0 w)).objs.size := Nat.ne_of_lt lt0
        have hA : A.in1.in1.handled = none := hh
        refine code_update2 (P := P) (a := s.heap.objs.size) (it := (s.heap.push (setObj0 w)).objs.size) ne0 (T := "set") (x := x) (u := u) hA x.cps.toList 0 (#[], 0, freshT w) [] _ rfl ?_ ?_ (TxOk.nil (by rfl)) List.nodup_nil List.Pairwise.nil ?_ ?_
        · exact Heap.get?_push_of_some _ at0
        · exact Heap.get?_push_size _ rfl
        · show 0 + x.cps.toList.length < scanBound
          omega
        · intro h' tk D' l' k1 k2 k3 k4 k5 k6 k7 k8
          show wpAny _ _ _ _ _ _
          refine wpAny_pure ?_
          show wpAny _ _ (ret Value.none) _ _ _
          refine wpAny_pure ⟨rfl, h', tk, D', l', rfl, k2, k3, k4, fun k => ?_, ?_, k5, k6, fun b o e => ?_⟩
          · rw [k7]
            exact ⟨fun q => q.elim (fun z => absurd z List.not_mem_nil) id, .inr⟩
          · have : ([] : List Str).length = 0 := rfl
            omega
          · have lb : b < s.heap.objs.size := Heap.lt_size e
            exact k1 b o (Nat.ne_of_lt lb) (Nat.ne_of_lt (Nat.lt_trans lb lt0)) (Heap.get?_push_of_some _ (Heap.get?_push_of_some _ e))
      · cases r₂ with
        | error e => exact hr₂
        | ok fl₂ =>
          cases fl₂ with
          | ret r =>
            obtain ⟨rfl, h', tk, D, l, rfl, g1, g2, g6, g7, g8, g3, g4, g5⟩ := hr₂
            repeat (any_goals (first | assumption | wp_step))
            exact h _ _ D l g1 g2 g3 g4 g6 g7 g8 g5
          | _ => exact hr₂.elim
    | _ => exact hr.elim
end
section
variable {X : Cx}
/-- set(x), x any ascii text -/
def rSetT2 (P : Program) (w : World) : List V → Hp → VK → Prop := fun vs H Q => ∃ x : Str, vs = [.str x] ∧ x.cps.all (· < 128) = true ∧ x.cps.toList.length < 64 ∧
  ∀ (p : Addr) (l : List Str), H p = none → l.Nodup → (∀ k, k ∈ l ↔ ∃ c ∈ x.cps.toList, k = sing c) → l.length ≤ x.cps.toList.length → Q (.ref p) (upd H p (SetTx P w p l))
theorem cr_setT2 (hc : X.calm = true) : CallR X (.type "set") (rSetT2 X.prog X.w) := by
  intro pins s σ H vs us Q I r h
  obtain ⟨x, rfl, asc, len, q⟩ := h
  obtain ⟨u, rfl, r0⟩ : ∃ u, us = [u] ∧ RelV (.str x) u := by
    cases r with
    | cons a b => cases b; exact ⟨_, rfl, a⟩
  obtain ⟨t, rfl⟩ := r0
  refine call_setT2 (I.ok.hd hc) asc (Nat.lt_of_lt_of_le len (by unfold scanBound; decide)) fun h' tk D l g1 g2 g3 g4 nd mem le k => ?_
  have w1 : ∃ D, h'.get? s.heap.objs.size = some (sObj "set" D) ∧ TxOk X.prog X.w D l ∧ Ris D.2.2.place.toList ∧ D.2.2.led = (!X.w.params.followText "set-order") := ⟨D, g1, g2, g3, g4⟩
  have hn : H s.heap.objs.size = none := I.hok.fresh (Nat.le_refl _)
  exact ⟨.ref _, upd H s.heap.objs.size (SetTx X.prog X.w s.heap.objs.size l), I.laid k (Nat.le_refl _) ⟨w1, ⟨_, g1⟩, fun _ _ ⟨D, e, r⟩ st => ⟨D, st _ e, r⟩⟩, rfl, q _ l hn nd mem le⟩
end
end SetQ

namespace Lb
open PySem PySem.Spec PyProof.Rows L2
/-! ### alphabets: list(x), set(x), sorted -/
def signV (c : Nat) : V := .str ⟨#[c]⟩
theorem vals_at : ∀ (xs : List V) (us : List Value), us.length = xs.length → (∀ (j : Nat) (u : Value), us[j]? = some u → ∃ x, xs[j]? = some x ∧ RelV x u) → Vals xs us
  | [], [], _, _ => .nil
  | x :: xs, u :: us, h, k => by
    obtain ⟨y, e, r⟩ := k 0 u rfl
    cases e
    exact .cons r (vals_at xs us (by simpa using h) fun j v hj => k (j + 1) v hj)
def rListT : List V → Hp → VK → Prop := fun vs H Q => ∃ x : Str, vs = [.str x] ∧ x.length ≤ sizeLine ∧ ∀ p, H p = none → Q (.ref p) (upd H p (.lst ((cs x).map signV)))
theorem cr_listT {X : Cx} (hc : X.calm = true) : CallR X (.type "list") rListT := by
  intro pins s σ H vs us Q I r h
  obtain ⟨x, rfl, len, q⟩ := h
  obtain ⟨u, rfl, t, rfl⟩ : ∃ u, us = [u] ∧ ∃ t, u = .str x t := by
    cases r with
    | cons a b =>
      cases b
      exact ⟨_, rfl, a⟩
  refine PySem.call_list_str (I.ok.hd hc) x t (fun h' tk acc c k e its => ?_)
  refine ⟨.ref s.heap.objs.size, upd H s.heap.objs.size (.lst ((cs x).map signV)), I.laid k (Nat.le_refl _) ⟨?_, acc.toList, c, ?_, e⟩, rfl, q _ (I.hok.fresh (Nat.le_refl _))⟩
  · rw [List.length_map, cs_len]
    exact len
  · refine vals_at _ _ ?_ fun j u hj => ?_
    · rw [List.length_map, cs_len, Array.length_toList]
      exact its.1
    · obtain ⟨cc, tt, hcc, rfl⟩ := its.2 j u (by rw [← Array.getElem?_toList]; exact hj)
      refine ⟨signV cc, ?_, tt, rfl⟩
      rw [List.getElem?_map, show (cs x)[j]? = some cc from (Array.getElem?_toList ..).trans hcc]
      rfl
end Lb
namespace Lb
open PySem PySem.Spec PyProof.Rows L2
/-! ### lists of signs, compared -/
def signD (c : Nat) : PyData := .str ⟨#[c]⟩
theorem dp_signs {K : PySem.W.Frag} {H : Hp} {a : Addr} {l : List Nat} (h : SqL K H a (l.map signV)) : Dp K H (.ref a) (.list (l.map signD)) := by
  refine .lst h ?_
  clear h
  induction l with
  | nil => exact .nil
  | cons c l ih => exact .cons (.str _) ih
theorem eqv_signs : ∀ l m : List Nat, PyData.eqvAll (l.map signD) (m.map signD) = decide (l = m)
  | [], [] => by simp [PyData.eqvAll]
  | [], _ :: _ => by simp [PyData.eqvAll]
  | _ :: _, [] => by simp [PyData.eqvAll]
  | c :: l, d :: m => by
    rw [List.map_cons, List.map_cons, PyData.eqvAll, eqv_signs l m]
    have e : PyData.eqv (signD c) (signD d) = decide (c = d) := by
      show ((⟨#[c]⟩ : Str) == ⟨#[d]⟩) = _
      by_cases h : c = d
      · subst h
        simp
      · rw [decide_eq_false h]
        refine beq_eq_false_iff_ne.mpr fun z => h ?_
        have := congrArg (fun y : Str => y.cps.toList) z
        simpa using this
    rw [e, ← Bool.decide_and]
    simp
theorem shaped_signs {l : List Nat} (h : ∀ c ∈ l, c < 128) : SeqAt.shaped (.list (l.map signD)) = true := by
  have lay : PyData.canLayAll0 (l.map signD) = true := by
    induction l with
    | nil => rfl
    | cons c l ih =>
      have hc := h c List.mem_cons_self
      have one : PyData.canLay0 (signD c) = true := by
        show (#[c] : Array Nat).all (· < 0x110000) = true
        simp
        omega
      rw [List.map_cons, PyData.canLayAll0, one, ih fun d m => h d (List.mem_cons_of_mem _ m)]
      rfl
  have dp : PyData.depthAll (l.map signD) = 0 := by
    clear lay h
    induction l with
    | nil => rfl
    | cons c l ih =>
      rw [List.map_cons, PyData.depthAll, ih]
      rfl
  show (PyData.canLayAll0 (l.map signD) && decide (PyData.depthAll (l.map signD) + 1 ≤ 64)) = true
  rw [lay, dp]
  rfl
theorem nodup_sings {l : List Nat} (h : l.Nodup) : (l.reverse.map PySem.Froz.sing).Nodup := by
  have r : l.reverse.Nodup := List.pairwise_reverse.mpr (h.imp fun e => Ne.symm e)
  refine List.pairwise_map.mpr (r.imp fun {a b} e z => e ?_)
  have := congrArg (fun y : Str => y.cps.toList) z
  have : [a] = [b] := this
  exact (List.cons.inj this).1
end Lb

namespace Own
open PySem PySem.Spec PyProof.Rows L2 ItX
section
variable {X : Cx} {pins : List (Addr × Obj)} {σ : L2.St} {H : Hp} {s : Shared} {C f a : Addr} {fd : FuncData} {ps : List Str} {sp : Sp} {n : Nat} {E : XK}
/-- the promise of a def that may speak of the size of the heap at its call -/
def FnY (P : Program) (w : World) (K : PySem.W.Frag) (mg : Str → Option Value) (base : Heap) (k : Nat) (f : Addr) (fd : FuncData) (ps : List Str) (sp : Nat → Sp) : Prop :=
  (∀ z vs H Q E, sp z vs H Q E → vs.length = ps.length) ∧ ∀ (A : Around) (outer : List Env) (s : Shared) (H : Hp) (args : Args) (us : List Value) (vs : List V) (Q : VK) (E : XK), Room k A → Env0 P w K mg base A outer s H →
    BindsTo s fd args (ps.zip us) → Vals vs us → sp s.heap.objs.size vs H Q E → codeAny (model P w) A (.call (.ref f) args) (CR CX0 outer P w H s Q E) s
theorem FnOk.young {P : Program} {w : World} {K : PySem.W.Frag} {mg : Str → Option Value} {base : Heap} {k : Nat} (F : FnOk P w K mg base CX0 k f fd ps sp) : FnY P w K mg base k f fd ps fun _ => sp :=
  ⟨fun _ => F.len, fun A outer s H args us vs Q E => F.run A outer s H args us vs Q E⟩
theorem fn_young {P : Program} {w : World} {K : PySem.W.Frag} {mg : Str → Option Value} {base : Heap} {x qual : Str} {st : Stmt} {N : List Str} {k : Nat} {spN : Nat → Sp} (F : Fun K x qual st f fd) (S : FnScope N ps (defScope st))
    (len : ∀ z vs H Q E, spN z vs H Q E → vs.length = ps.length)
    (go : ∀ (cdv : Value) (A : Around) (outer : List Env) (s : Shared) (H : Hp) (vs : List V) (Q : VK) (E : XK), Room k (A.deeper (envOfC qual (defScope st) s.heap.objs.size f cdv)) → spN s.heap.objs.size vs H Q E →
      ∃ t, PSs (cxOf CX0 P w K mg base N qual (defScope st) f cdv A outer s H E).nox (defBody st) t ∧ t { nx := fun _ H' => Q .non H', rt := Q } (start N vs) H) : FnY P w K mg base (k + 1) f fd ps spN := by
  refine ⟨len, ?_⟩
  intro A outer s H args us vs Q E room env bnd rel hsp
  -- a promise that holds at this heap alone
  obtain ⟨oc, od, kV, doc, pm, an, cdv, ct, osl, hfd, look, code⟩ := F.ex
  subst hfd
  have inK : K.In s.heap := env.mod.kin.keeps fun b o e => (env.bs b o e).1
  have known : ∀ y ∈ ps.zip us, (defScope st).names.lookup y.1 = some .local ∨ ((defScope st).names.lookup y.1 = some .cell ∧ ((cellsFrom (s.heap.objs.size + 1) (defScope st).names []).lookup y.1).isSome = true) := by
    rintro ⟨m, v⟩ my
    exact (S.par m (List.of_mem_zip my).1).imp id fun q => ⟨q, PySem.W.cellsFrom_some _ _ _ (.inl q)⟩
  refine codeAny_call_function room.depth (inK _ _ look) rfl S.co S.gen rfl (PySem.W.codeRec_of inK code) (bnd _ _ _ _ ?_)
  refine wpAny_newFunctionEnv_cells S.kind known fun env1 ee s1 nw => ?_
  subst ee
  refine ⟨(env.mod.nolimit.keeps fun b o e => (env.bs b o e).1).keeps nw.toInCall.keep, codeAny_func ?_⟩
  obtain ⟨t, body, met⟩ := go cdv A outer s H vs Q E (room.deeper _) hsp
  have I0 : L2.Inv (cxOf CX0 P w K mg base N qual (defScope st) f cdv A outer s H E) [] (start N vs) H s1 := inv_start S room.hd env (len _ _ _ _ _ hsp) rel nw
  refine wpAny_mono (body.nox.run [] s1 (start N vs) H _ I0 met) (fun fl s' ends => ?_) fun e s' hs => hs
  cases fl with
  | ret u =>
    obtain ⟨v, σ', H', J, rv, q⟩ := ends
    exact ⟨v, H', J.os, J.bare, J.base, J.hok, rv, q⟩
  | next =>
    obtain ⟨σ', H', J, q⟩ := ends
    exact ⟨V.non, H', J.os, J.bare, J.base, J.hok, rfl, q⟩
  | brk => exact ends.elim fun _ z => z.elim fun _ z => z.2.elim
  | cont => exact ends.elim fun _ z => z.elim fun _ z => z.2.elim
/-- a def of the text, called as a special method of an own instance -/
theorem run_own {spN : Nat → Sp} {A1 : Around} {Q : VK} {vs : List V} {us : List Value} {R : Value → Shared → Prop} {E' : Value → Shared → Prop} (sb : Sub X n A1) (F : FnY X.prog X.w X.K X.mg X.base n f fd ps spN) (b : Binds X.K fd ps [])
    (I : Inv X pins σ H s) (r : Vals vs us) (hsp : spN s.heap.objs.size vs H Q E) (hR : ∀ u v H' s', Inv X pins σ H' s' → RelV v u → Q v H' → R u s') :
    wpAny (model X.prog X.w) A1 (call (.ref f) us) R E' s := by
  have e0 : Env0 X.prog X.w X.K X.mg X.base A1 X.stack s H := by
    have e := I.env0
    exact ⟨by rw [sb.fr]; exact e.frames, e.mod, e.bs, e.bsz, e.funs, e.frf, e.hok, e.bare⟩
  have hl := F.1 _ _ _ _ _ hsp
  refine wpAny_call (codeAny_mono (F.2 A1 X.stack s H ⟨us, []⟩ us vs Q E sb.room e0 (by
    have := b s us I.kIn (by rw [List.append_nil, ← r.length]; exact hl)
    simpa using this) r hsp) fun r s' hq => ?_)
  cases r with
  | error e => exact hq.elim
  | ok fl =>
    cases fl with
    | ret u =>
      obtain ⟨v, H', I', rv, q⟩ := I.after hq
      exact hR u v H' s' I' rv q
    | next => exact False.elim hq
    | brk => exact False.elim hq
    | cont => exact False.elim hq
/-- len(o) of an own instance -/
def rLenOwn (C : Addr) (sp : Sp) (E : XK) : List V → Hp → VK → Prop := fun xs H Q => ∃ a dx fs, xs = [.ref a] ∧ H a = some (.ins C dx fs) ∧ sp [.ref a] H (fun v H' => ∃ i : Int, v = .int i ∧ 0 ≤ i ∧ i < 2 ^ 63 ∧ Q (.int i) H') E
theorem call_lenOwn (hl : PySem.W.findIn X.K (.ref C) "__len__" = some (some (.ref f))) (hf : PySem.W.isFn X.K (.ref f) = true) (F : FnOk X.prog X.w X.K X.mg X.base CX0 n f fd ps sp) (b : Binds X.K fd ps []) (hr : Room (n + 1) X.A) : CallR X (.builtin "len") (rLenOwn C sp E) := by
  intro pins s σ H xs us Q I rv h
  obtain ⟨a, dx, fs, rfl, ha, hsp⟩ := h
  obtain ⟨u, rfl, ru⟩ := rv.one
  cases ru
  have sb : Sub X n X.A.in1 := Sub.in1 (⟨hr, rfl⟩ : Sub X (n + 1) X.A)
  obtain ⟨mA, J, _⟩ := ins_get I.hok ha
  obtain ⟨od, J, _⟩ := J.look
  refine Calls.call_function_entry kind_len plain_len entry_len (args_len1 _) ?_
  unfold Builtin.«len»
  refine wpAny_bind (m := oneArg "len" _) (wpAny_pure ?_)
  refine wpAny_bind (m := callSpecial? (.ref a) (PySem.Str.ofString "__len__")) (PySem.W.special_fn (args := []) I.kIn J hl (beq_iff_eq.mp hf) (run_own sb (FnOk.young F) b I (.cons (show RelV (.ref a) (.ref a) from rfl) .nil) hsp fun u v H' s' I' rv' q => ?_))
  obtain ⟨i, rfl, i0, i1, q⟩ := q
  obtain ⟨t, rfl⟩ := rv'
  refine wpAny_bind (wpAny_holding (wpAny_pure ?_))
  refine wpAny_bind (wpAny_letGo ?_)
  show wpAny _ _ (if i < 0 then _ else _) _ _ _
  rw [if_neg (by omega)]
  show wpAny _ _ (if i ≥ 2 ^ 63 then _ else _) _ _ _
  rw [if_neg (by omega)]
  exact wpAny_bind (wpAny_mkInt (wpAny_pure ⟨_, rfl, .int i, H', I'.tok _, ⟨_, rfl⟩, q⟩))
/-- for x in o, o an own instance whose __iter__ tells a list's iterator -/
def iOwnL (K : PySem.W.Frag) (n : Nat) (C : Addr) (spN : Nat → Sp) (E : XK) (te : TE) : TI := fun σ H R => te σ H fun x H1 => ∃ a dx fs, x = .ref a ∧ H1 a = some (.ins C dx fs) ∧ ∀ z, n ≤ z →
  spN z [.ref a] H1 (fun v H2 => ∃ it l, v = .ref it ∧ n ≤ it ∧ H2 it = some (ItO l it 0) ∧ R (Itl K l) (dropH H2 it)) E
theorem pi_ownL {spN : Nat → Sp} {tg e : Expr} {te : TE} (hc : X.calm = true) (he : PE X e te) (hi : PySem.W.findIn X.K (.ref C) "__iter__" = some (some (.ref f))) (hf : PySem.W.isFn X.K (.ref f) = true) (F : FnY X.prog X.w X.K X.mg X.base n f fd ps spN) (b : Binds X.K fd ps [])
    (hr : Room n X.A) : PI X tg e (iOwnL X.K X.s_0.heap.objs.size C spN E te) := by
  refine ⟨fun pins s σ H R I h => ?_⟩
  refine thn (he.run pins s σ H _ I h) fun v s1 ⟨x, H1, I1, r1, a, dx, fs, ex, ha, hsp⟩ => ?_
  subst ex
  cases r1
  have sb : Sub X n X.A := ⟨hr, rfl⟩
  obtain ⟨mA, J, _⟩ := ins_get I1.hok ha
  obtain ⟨od, J, _⟩ := J.look
  obtain ⟨m0, hF⟩ := I1.fr
  refine PySem.W.owit_iter hF I1.ok.mod.kin J hi hf (run_own sb F b I1 (.cons (show RelV (.ref a) (.ref a) from rfl) .nil) (hsp _ I1.sz) fun u v H2 s2 I2 rv q => ?_)
  obtain ⟨it, l, rfl, hn, e2, hR⟩ := q
  cases rv
  have eo := itO_get I2 e2
  have hT : s2.TypeIs (.ref it) "list_iterator" := ⟨_, eo, rfl⟩
  unfold PySem.W.OwitIt
  refine wpAny_specialOf (name := Str.ofString "__next__") hT slot_listiter_next.lookup ?_
  have st : s2.heap.IsListIter it l 0 := ⟨_, eo, rfl, rfl⟩
  have e2' := e2
  unfold ItO at e2'
  refine ⟨it, [it], _, _, dropH H2 it, rfl, inv_drop I2 e2', turn_list l it, st, fun b hb => ?_, hR⟩
  have e : b = it := by simpa using hb
  rw [e]
  exact inv_fp I2 e2 hn
end
/-- an empty tuple of the written part (a default) -/
def KT0 (K : PySem.W.Frag) (p : Addr) : Prop := ∃ (o : Obj) (n : Nat), K.lookup p = some o ∧ o.cls = .type "tuple" ∧ o.data = .seq #[] n
theorem KT0.sq {K : PySem.W.Frag} {p : Addr} (h : KT0 K p) (H : Hp) : SqT K H p [] := by
  obtain ⟨o, n, e, c, d⟩ := h
  exact .inr ⟨o, #[], n, e, c, d, Nat.zero_le _, .nil⟩
/-- a list, a tuple, or such a default -/
def RowAt (K : PySem.W.Frag) (H : Hp) (p : Addr) (xs : List V) : Prop := H p = some (.lst xs) ∨ H p = some (.tup xs) ∨ (xs = [] ∧ KT0 K p)
theorem RowAt.same [Lb.Tabl] {K : PySem.W.Frag} {H H' : Hp} {p : Addr} {xs : List V} (h : RowAt K H p xs) (s : Lb.Same H H') : RowAt K H' p xs := h.imp (s _ _) fun h => h.imp (s _ _) id
theorem RowAt.sq {K : PySem.W.Frag} {H : Hp} {p : Addr} {xs : List V} (h : RowAt K H p xs) : SqL K H p xs ∨ SqT K H p xs := by
  rcases h with h | h | ⟨rfl, h⟩
  · exact .inl (.inl (.inl h))
  · exact .inr (.inl (.inl h))
  · exact .inr (h.sq H)
end Own

namespace SkF
open PySem PySem.Spec PyProof.Rows L2
open Lb (Tabl Good)
/-! ### sorted(xs, key=f), f a def of the program that makes new things only -/
section
variable [Tabl]
theorem sqL_same {K : PySem.W.Frag} {H H' : Hp} {a : Addr} {xs : List V} (s : Lb.Same H H') (h : SqL K H a xs) : SqL K H' a xs := by
  rcases h with (h | ⟨o, h⟩) | h
  · exact .inl (.inl (s.old a _ h))
  · exact .inl (.inr ⟨o, s.old a _ h⟩)
  · exact .inr h
theorem sqT_same {K : PySem.W.Frag} {H H' : Hp} {a : Addr} {xs : List V} (s : Lb.Same H H') (h : SqT K H a xs) : SqT K H' a xs := by
  rcases h with h | h
  · first
      | exact .inl (s.old a _ h)
      | (rcases h with h | ⟨o, h⟩
         · exact .inl (.inl (s.old a _ h))
         · exact .inl (.inr ⟨o, s.old a _ h⟩))
  · exact .inr h
mutual
theorem dp_same {K : PySem.W.Frag} {H H' : Hp} (s : Lb.Same H H') : ∀ (d : PyData) (v : V), Dp K H v d → Dp K H' v d
  | .none, _, h => by
    cases h
    exact .non
  | .bool _, _, h => by
    cases h
    exact .bl _
  | .int _, _, h => by
    cases h
    exact .int _
  | .str _, _, h => by
    cases h
    exact .str _
  | .list ds, _, h => by
    cases h with
    | lst q a => exact .lst (sqL_same s q) (dpAll_same s ds _ a)
  | .tuple ds, _, h => by
    cases h with
    | tup q a => exact .tup (sqT_same s q) (dpAll_same s ds _ a)
  | .dict _, _, h => by cases h
theorem dpAll_same {K : PySem.W.Frag} {H H' : Hp} (s : Lb.Same H H') : ∀ (ds : List PyData) (vs : List V), DpAll K H vs ds → DpAll K H' vs ds
  | [], _, h => by
    cases h
    exact .nil
  | d :: ds, _, h => by
    cases h with
    | cons a b => exact .cons (dp_same s d _ a) (dpAll_same s ds _ b)
end
theorem dpAll_snoc {K : PySem.W.Frag} {H : Hp} : ∀ {vs : List V} {ds : List PyData} {v : V} {d : PyData}, DpAll K H vs ds → Dp K H v d → DpAll K H (vs ++ [v]) (ds ++ [d])
  | _, _, _, _, .nil, h => .cons h .nil
  | _, _, _, _, .cons a b, h => .cons a (dpAll_snoc b h)
theorem dpAll_len {K : PySem.W.Frag} {H : Hp} : ∀ {vs : List V} {ds : List PyData}, DpAll K H vs ds → vs.length = ds.length
  | _, _, .nil => rfl
  | _, _, .cons _ b => congrArg (· + 1) (dpAll_len b)
theorem vals_snoc : ∀ {vs : List V} {us : List Value} {v : V} {u : Value}, Vals vs us → RelV v u → Vals (vs ++ [v]) (us ++ [u])
  | _, _, _, _, .nil, h => .cons h .nil
  | _, _, _, _, .cons a b, h => .cons a (vals_snoc b h)
theorem each_vals : ∀ {vs : List V} {us : List Value}, Vals vs us → PySem.W.EachIs (fun u v => RelV v u) us vs
  | _, _, .nil => .nil
  | _, _, .cons a b => .cons a (each_vals b)
theorem vals_each : ∀ {vs : List V} {us : List Value}, PySem.W.EachIs (fun u v => RelV v u) us vs → Vals vs us
  | _, _, .nil => .nil
  | _, _, .cons a b => .cons a (vals_each b)
theorem each_reads {X : Cx} {pins : List (Addr × Obj)} {σ : L2.St} {H : Hp} {s : Shared} (I : Inv X pins σ H s) : ∀ {ds : List PyData} {vs : List V} {us : List Value}, DpAll X.K H vs ds → Vals vs us → PySem.W.EachIs (fun u d => ∃ as, Reads s.heap u d as) us ds
  | _, _, _, .nil, .nil => .nil
  | _, _, _, .cons a b, .cons r t => .cons (Dp.reads I _ _ _ a r) (each_reads I b t)
/-- what is wanted of the key -/
def spKeyD (K : PySem.W.Frag) (rel : Hp → V → PyData → Prop) : Sp := fun vs H Q _ => ∃ (x : V) (d : PyData), vs = [x] ∧ rel H x d ∧ ∀ (y : V) (H' : Hp), Lb.Same H H' → Dp K H' y d → Q y H'
section
variable {X : Cx} {pins : List (Addr × Obj)} {σ : L2.St} {H : Hp} {s : Shared}
theorem room2 {k : Nat} {A : Around} (r : Room (k + 1) A) : Room k A.in1.in1 :=
  ⟨r.hd, by have := r.dp; show A.depth + 3 * k + 5 < _; omega, by have := r.un; show A.units + 1 + 1 + 16 * k + 200 < _; omega⟩
/-- one key -/
theorem run_key {k : Nat} {f : Addr} {fd : FuncData} {p : Str} {rel : Hp → V → PyData → Prop} (F : FnOk X.prog X.w X.K X.mg X.base CX0 k f fd [p] (spKeyD X.K rel)) (hb : Binds X.K fd [p] []) (hr : Room (k + 1) X.A) (I : Inv X pins σ H s) {x : V} {v : Value} {d : PyData} (rv : RelV x v) (hx : rel H x d) {E : Value → Shared → Prop} {Q : Value → Shared → Prop}
    (q : ∀ (y : V) (u : Value) (H' : Hp) (s' : Shared), Lb.Same H H' → Dp X.K H' y d → RelV y u → Inv X pins σ H' s' → (∀ b o, s.heap.get? b = some o → H b = none → b ∉ frs X.stack → s'.heap.get? b = some o) → (∀ b o, s.heap.get? b = some o → H b = none → H' b = none) → Q u s') :
    wpAny (model X.prog X.w) X.A.in1.in1 (call (.ref f) [v]) Q E s := by
  have e0 := I.env0
  have en : Env0 X.prog X.w X.K X.mg X.base X.A.in1.in1 X.stack s H := ⟨by exact I.ok.frames, e0.mod, e0.bs, e0.bsz, e0.funs, e0.frf, e0.hok, e0.bare⟩
  have r2 : Vals [x] [v] := .cons rv .nil
  refine wpAny_call (codeAny_mono (F.run X.A.in1.in1 X.stack s H ⟨[v], []⟩ [v] [x] (fun y H' => Lb.Same H H' ∧ Dp X.K H' y d) (fun _ _ _ => False) (room2 hr) en (hb s [v] I.kIn rfl) r2 ⟨x, d, rfl, hx, fun y H' a b => ⟨a, b⟩⟩) fun r s' hq => ?_)
  cases r with
  | error e => exact (hq : False).elim
  | ok fl =>
    cases fl with
    | ret u =>
      have hq' : CE X.stack X.prog X.w H s (fun y H' => Lb.Same H H' ∧ Dp X.K H' y d) u s' := hq
      have un := hq'
      obtain ⟨v1, H1, os, bare, un1, hok, rv1, sm1, dp1⟩ := un
      have I' : Inv X pins σ H1 s' := I.call' (ch := []) os un1 hok bare (fun b z => absurd z List.not_mem_nil)
      exact q v1 u H1 s' sm1 dp1 rv1 I' (fun b o e n hf => un1.keep b o e n hf List.not_mem_nil) (fun b o e n => un1.free b o e n List.not_mem_nil)
    | next => exact False.elim hq
    | brk => exact False.elim hq
    | cont => exact False.elim hq
theorem run_sortKey {k : Nat} {f : Addr} {fd : FuncData} {p : Str} {rel : Hp → V → PyData → Prop} (key : V → PyData) {a : Addr} {xs : List V} {Q : VK} (F : FnOk X.prog X.w X.K X.mg X.base CX0 k f fd [p] (spKeyD X.K rel)) (hb : Binds X.K fd [p] []) (hr : Room (k + 1) X.A) (hu : X.A.units + 64 < cLine)
    (st : ∀ H H' x d, Lb.Same H H' → rel H x d → rel H' x d) (I : Inv X pins σ H s) (hs : SqL X.K H a xs) (hx : ∀ x ∈ xs, rel H x (key x)) (hal : PySem.W.AllAlike (xs.map key)) (hk : PySem.W.Sortable (xs.map key)) (hd : ∀ x ∈ xs, (key x).depth ≤ 16)
    (q : ∀ (l : Addr) (H' : Hp), Lb.Same H H' → H l = none → H' l = some (.lst (xs.mergeSort (PySem.W.dataLe false key))) → Q (.ref l) H') :
    wpAny (model X.prog X.w) X.A (call (.builtin "sorted") [.ref a] [(Str.ofString "key", .ref f)]) (EP X pins σ Q) X.xe s := by
  obtain ⟨its, rv, hl, hz⟩ := I.list hs
  have hlen : its.length = xs.length := rv.length.symm
  have hz' : its.length ≤ sizeLine := by rw [hlen]; exact hz
  refine PySem.W.sorted_of_sort hl.isList hz' (ksk_s1 _ _) (fun _ => ksk_l1 _ _) fun E' => ?_
  rw [ksk_t1]
  -- the copy to be sorted stands at n + 1
  have at0 := PySem.W.copyHeap_at s.heap its
  generalize hg0 : PySem.W.copyHeap s.heap its = h0 at at0
  have old0 : ∀ b o, s.heap.get? b = some o → h0.get? b = some o := fun b o e => by rw [← hg0]; exact PySem.W.copyHeap_old e
  have lt0 : s.heap.objs.size + 1 < h0.objs.size := Heap.lt_size at0
  generalize hD : s.heap.objs.size + 1 = D at at0 lt0
  have geD : s.heap.objs.size ≤ D := by rw [← hD]; exact Nat.le_succ _
  obtain ⟨e1, at1⟩ : ∃ e1, (h0.update D (Obj.mapSeq fun _ => (#[] : Array Value))).get? D = some (seqObj "list" #[] e1) := ⟨_, get?_update_seq at0 fun _ => #[]⟩
  have hkS : ((h0.update D (Obj.mapSeq fun _ => (#[] : Array Value))).push (seqObj "tuple" its.toArray 0)).objs.size = h0.objs.size + 1 := by rw [size_push', Heap.size_update]
  generalize hkD : ((h0.update D (Obj.mapSeq fun _ => (#[] : Array Value))).push (seqObj "tuple" its.toArray 0)).objs.size = kS at hkS
  have neD : kS ≠ D := by rw [hkS]; exact Nat.ne_of_gt (Nat.lt_succ_of_lt lt0)
  have geS : s.heap.objs.size ≤ kS := by rw [hkS]; exact Nat.le_trans (Nat.le_trans geD (Nat.le_of_lt lt0)) (Nat.le_succ _)
  unfold ksk_tree
  refine wpAny_bind (listItems_at at0 rfl ?_)
  refine wpAny_bind (listUpdate_at at0 rfl ?_ (by rw [List.size_toArray]; exact hz') (Nat.zero_le _))
  refine wpAny_bind (seqEpoch_at at1 rfl ?_)
  refine wpAny_bind (wpAny_newTuple ?_ (by show its.length ≤ _; exact hz'))
  refine wpAny_bind (wpAny_newList ?_ (Nat.zero_le _))
  refine wpAny_holding ?_
  have atS : (((h0.update D (Obj.mapSeq fun _ => (#[] : Array Value))).push (seqObj "tuple" its.toArray 0)).push (seqObj "list" #[] 0)).get? kS = some (seqObj "list" #[] 0) := by
    rw [← hkD]
    exact Heap.get?_push_size _ rfl
  have atD : (((h0.update D (Obj.mapSeq fun _ => (#[] : Array Value))).push (seqObj "tuple" its.toArray 0)).push (seqObj "list" #[] 0)).get? D = some (seqObj "list" #[] e1) := Heap.get?_push_of_some _ (Heap.get?_push_of_some _ at1)
  have oldK : ∀ b o, s.heap.get? b = some o → (((h0.update D (Obj.mapSeq fun _ => (#[] : Array Value))).push (seqObj "tuple" its.toArray 0)).push (seqObj "list" #[] 0)).get? b = some o := fun b o e =>
    Heap.get?_push_of_some _ (Heap.get?_push_of_some _ ((Heap.get?_update_ne _ _ _ _ (Nat.ne_of_lt (Nat.lt_of_lt_of_le (Heap.lt_size e) geD))).trans (old0 b o e)))
  show wpAny (model X.prog X.w) X.A.in1.in1 (ksk_rest D (.ref f) false its.toArray e1 (.ref ((h0.update D (Obj.mapSeq fun _ => (#[] : Array Value))).push (seqObj "tuple" its.toArray 0)).objs.size)) _ E' { s with heap := ((h0.update D (Obj.mapSeq fun _ => (#[] : Array Value))).push (seqObj "tuple" its.toArray 0)).push (seqObj "list" #[] 0) }
  rw [hkD]
  have I0 : Inv X pins σ H { s with heap := ((h0.update D (Obj.mapSeq fun _ => (#[] : Array Value))).push (seqObj "tuple" its.toArray 0)).push (seqObj "list" #[] 0) } := I.kept (t' := s.toks) oldK
  generalize ((h0.update D (Obj.mapSeq fun _ => (#[] : Array Value))).push (seqObj "tuple" its.toArray 0)).push (seqObj "list" #[] 0) = h3 at atS atD I0
  have frOld : ∀ b ∈ frs X.stack, b < s.heap.objs.size := fun b hb => by
    obtain ⟨_, o, ho, _⟩ := I.stack.mem hb
    exact Heap.lt_size ho
  have nfD : D ∉ frs X.stack := fun z => absurd (frOld _ z) (Nat.not_lt.mpr geD)
  have nfS : kS ∉ frs X.stack := fun z => absurd (frOld _ z) (Nat.not_lt.mpr geS)
  have hnD : H D = none := I.hok.fresh geD
  have hnS : H kS = none := I.hok.fresh geS
  unfold ksk_rest
  refine wpAny_bind (wpAny_rule ?_)
  first
    | rw [List.forIn_toArray]
    | (rw [← Array.forIn_toList]; simp only [List.toList_toArray])
    | rw [← Array.forIn_toList]
  refine wpAny_bind (ksk_fold (fun i s' => ∃ (H1 : Hp) (kA : Array Value) (e : Nat) (ys : List V), Lb.Same H H1 ∧ Inv X pins σ H1 s' ∧ H1 D = none ∧ H1 kS = none ∧ s'.heap.get? kS = some (seqObj "list" kA e) ∧ s'.heap.get? D = some (seqObj "list" #[] e1) ∧ Vals ys kA.toList ∧ DpAll X.K H1 ys ((xs.take i).map key)) its 0 _
    ⟨H, #[], 0, [], .refl H, I0, hnD, hnS, atS, atD, .nil, by rw [List.take_zero]; exact .nil⟩ ?step ?done)
  case step =>
    rintro j v s' hv ⟨H1, kA, e, ys, sm, I1, nD, nS, gS, gD, vy, dy⟩
    simp only [Nat.zero_add] at dy ⊢
    obtain ⟨x, ex, rx⟩ : ∃ x, xs[j]? = some x ∧ RelV x v := by
      have hj : j < xs.length := by
        have := (List.getElem?_eq_some_iff.mp hv).1
        omega
      obtain ⟨u, hu', r⟩ := rv.get (List.getElem?_eq_getElem hj)
      rw [hv] at hu'
      cases hu'
      exact ⟨_, List.getElem?_eq_getElem hj, r⟩
    have hxx := hx x (List.mem_of_getElem? ex)
    have ysz : kA.size ≤ its.length := by
      have h1 := vy.length
      have h3 := dpAll_len dy
      rw [List.length_map, List.length_take] at h3
      have h4 : kA.toList.length = kA.size := Array.length_toList
      have h5 : ys.length = kA.toList.length := h1
      have h6 : min j xs.length ≤ xs.length := Nat.min_le_right ..
      rw [← h4, ← h5, h3, hlen]
      exact h6
    refine wpAny_bind (wpAny_attempt (run_key F hb hr I1 rx (st _ _ _ _ sm hxx) fun y u H2 s2 s12 dp2 ru I2 keep free => ?_))
    try dsimp only
    have gS2 := keep kS _ gS nS nfS
    have gD2 := keep D _ gD nD nfD
    have nS2 := free kS _ gS nS
    have nD2 := free D _ gD nD
    obtain ⟨c2, hc2⟩ : ∃ c2, (s2.heap.update kS (Obj.mapSeq (·.push u))).get? kS = some (seqObj "list" (kA.push u) c2) := ⟨_, get?_update_seq gS2 (·.push u)⟩
    have ea : (kA.push u).toList = kA.toList ++ [u] := by simp
    have ek : (xs.take (j + 1)).map key = (xs.take j).map key ++ [key x] := by
      rw [List.take_add_one, ex, List.map_append]
      rfl
    have fpS : FpOk X pins H2 kS := I.fpOk geS nS2
    refine wpAny_bind (listUpdate_at gS2 rfl ?_ (Nat.le_trans ysz hz') (Nat.le_trans (Nat.le_of_eq (Array.size_push ..)) (Nat.succ_le_succ (Nat.le_trans ysz hz'))))
    refine wpAny_pure ⟨rfl, H2, kA.push u, c2, ys ++ [y], sm.trans s12, ?_, nD2, nS2, hc2, (Heap.get?_update_ne _ _ _ _ (Ne.symm neD)).trans gD2, by rw [ea]; exact vals_snoc vy ru, by rw [ek]; exact dpAll_snoc (dpAll_same s12 _ _ dy) dp2⟩
    exact I2.turnedL (t' := s2.toks) (ch := [kS]) (fun b o hb ho => (Heap.get?_update_ne _ _ _ _ (fun z => hb (by rw [z]; exact List.mem_cons_self))).trans ho) (fun b hb => by rw [List.mem_singleton.mp hb]; exact fpS)
  case done =>
    rintro s' ⟨H1, kA, e, ys, sm, I1, nD, nS, gS, gD, vy, dy⟩
    have e3 : xs.take (0 + its.length) = xs := List.take_of_length_le (by omega)
    rw [e3] at dy
    have er := each_reads I1 dy vy
    have hsz : kA.size = its.length := by
      have h1 := er.length
      rw [Array.length_toList, List.length_map] at h1
      omega
    try dsimp only
    refine wpAny_bind (listItems_at gS rfl ?_)
    obtain ⟨G, g1, g2⟩ := restrict s'.heap fun b => decide (b ≠ kS ∧ b ≠ D)
    have gk : ∀ b o, b ≠ kS → b ≠ D → s'.heap.get? b = some o → G.get? b = some o := fun b o h1 h2 e => by
      rw [g1 b (decide_eq_true ⟨h1, h2⟩)]
      exact e
    have gback : ∀ b o, G.get? b = some o → s'.heap.get? b = some o ∧ b ≠ kS ∧ b ≠ D := fun b o e => by
      by_cases h : b ≠ kS ∧ b ≠ D
      · exact ⟨by rw [← g1 b (decide_eq_true h)]; exact e, h⟩
      · rw [g2 b (decide_eq_false h)] at e
        cases e
    have gS0 : G.get? kS = none := g2 kS (decide_eq_false fun z => z.1 rfl)
    have gD0 : G.get? D = none := g2 D (decide_eq_false fun z => z.2 rfl)
    have depth : ∀ d ∈ xs.map key, X.A.in1.in1.units + d.depth < cLine := fun d hd' => by
      obtain ⟨x, mx, rfl⟩ := List.mem_map.mp hd'
      have := hd x mx
      show X.A.units + 1 + 1 + _ < _
      omega
    refine PySem.W.keyH_end (κ := PySem.W.dataKind s'.heap (xs.map key)) (h₁ := G) (fun b o _ e => (gback b o e).1) gS0 gS gD neD (PySem.W.SortsAt.data er hal hk depth) hsz hz' fun h' tk c kp at' => ⟨rfl, ?_⟩
    have ko : PySem.W.KeyedOut false (xs.map key) its (PySem.W.sortVals (PySem.W.dataKind s'.heap (xs.map key)) false kA.toList its) := ⟨s'.heap, kA.toList, hal, rfl, er⟩
    have out := PySem.W.keyedOut_each key ko (each_vals rv)
    have IG : Inv X pins σ H1 { s' with heap := G } := I1.turnedL (t' := s'.toks) (ch := [kS, D]) (fun b o hb e => gk b o (fun z => hb (by rw [z]; exact List.mem_cons_self)) (fun z => hb (by rw [z]; exact List.mem_cons_of_mem _ List.mem_cons_self)) e) (fun b hb => by
      rcases List.mem_cons.mp hb with z | hb
      · rw [z]
        exact I.fpOk geS nS
      · rw [List.mem_singleton.mp hb]
        exact I.fpOk geD nD)
    have lenE : (xs.mergeSort (PySem.W.dataLe false key)).length = xs.length := (List.mergeSort_perm xs _).length_eq
    have IF := IG.laidN (a := D) (o := .lst (xs.mergeSort (PySem.W.dataLe false key))) (h' := h') (t' := tk) (fun b u e => kp b u (gback b u e).2.2 e) gD0 nD ⟨by rw [lenE]; exact hz, _, c, vals_each out, at'⟩
    exact ⟨.ref D, _, IF, rfl, q D _ (sm.trans (Lb.same_new nD)) hnD upd_same⟩
def rSortKey (K : PySem.W.Frag) (f : Addr) (rel : Hp → V → PyData → Prop) : List V → List V → Hp → VK → Prop := fun vs zs H Q => ∃ (a : Addr) (xs : List V) (key : V → PyData), vs = [.ref a] ∧ zs = [.ref f] ∧ SqL K H a xs ∧ (∀ x ∈ xs, rel H x (key x)) ∧
  PySem.W.AllAlike (xs.map key) ∧ PySem.W.Sortable (xs.map key) ∧ (∀ x ∈ xs, (key x).depth ≤ 16) ∧ ∀ (l : Addr) (H' : Hp), Lb.Same H H' → H l = none → H' l = some (.lst (xs.mergeSort (PySem.W.dataLe false key))) → Q (.ref l) H'
theorem cr_sortKey {k : Nat} {f : Addr} {fd : FuncData} {p : Str} {rel : Hp → V → PyData → Prop} (F : FnOk X.prog X.w X.K X.mg X.base CX0 k f fd [p] (spKeyD X.K rel)) (hb : Binds X.K fd [p] []) (hr : Room (k + 1) X.A) (hu : X.A.units + 64 < cLine)
    (st : ∀ H H' x d, Lb.Same H H' → rel H x d → rel H' x d) : CallRK X (.builtin "sorted") [Str.ofString "key"] (rSortKey X.K f rel) := by
  intro pins s σ H vs zs us ws Q I r rz h
  obtain ⟨a, xs, key, rfl, rfl, hs, hx, hal, hk, hd, q⟩ := h
  obtain rfl := Vals.ref1 r
  obtain ⟨w1, rfl, e1⟩ := vals1 rz
  obtain rfl : w1 = .ref f := e1
  exact run_sortKey key F hb hr hu st I hs hx hal hk hd q
end
end
end SkF

namespace DcT
open PySem PySem.Spec PyProof.Rows L2
section
variable {Z : Cx}
/-- d[k] = v by a comprehension, the key an int, a text or a tuple of them -/
theorem store {pn : List (Addr × Obj)} {τ : L2.St} {G G' : Hp} {t : Shared} {B : Value → Shared → Prop} {D : Addr} {y v : V} {u r : Value} {Q : Unit → Shared → Prop} (room : Z.A.units < cLine) (J : L2.Inv Z pn τ G t) (g : DPut G D y v G')
    (ry : RelV y u) (rv : RelV v r) (go : ∀ t', L2.Inv Z pn τ G' t' → Q () t') : wpAny (model Z.prog Z.w) Z.A (dictSet D u r) Q B t := by
  rcases g with ⟨kvs, k, at_, rfl, len, rfl⟩ | ⟨kvs, k, b, at_, rfl, key, len, rfl⟩
  · exact d_dictSet J at_ len ry rv go
  · obtain rfl : u = Value.ref b := ry
    obtain ⟨z, sys, xs, rel, dd⟩ := dt_of J.hok at_
    have more : (putK kvs k v).length ≤ sizeLine := by have := length_putK kvs k v; omega
    refine wpAny_dictSet_heap (hsz := by rw [← Paired.length rel]; exact z) (show Z.A.units < cLine from room) (key_of J.hok key) dd fun h' dd' but => go _ ?_
    obtain ⟨q, es, ep, hq, h2, h3, h4, _, h5⟩ := dd'
    refine d_write J (by rw [at_]; exact True.intro) but ⟨q, hq⟩ ⟨more, sys, _, (rel.put k key rv).keeps fun c ys ec => ?_, q, es, ep, hq, h2, h3, h4, h5⟩
    rw [upd_ne (ne_of ec at_ (fun z => nomatch z))]
    exact ec
/-- {k: v for target in iter if ..}, the keys tuples of ints and texts: D the new dict -/
def tDcT (wi : TI) (g : TG) (tt : TT) (tk tv : TE) (vs : List Nat) : TE := fun τ G Q => wi τ G fun J G1 => ∀ D, G1 D = none → ∃ W : Nat → Nat → Hp → Prop, (∃ m, W 0 m (upd G1 D (.dT []))) ∧
  ∀ i m G, W i m G → (J.stop i G ∧ Q (.ref D) G) ∨ (J.go i G ∧ ∃ Nx : Hp → Prop, (∀ G', Nx G' → ∃ m', m' < m ∧ W (i + 1) m' G') ∧
    ∀ x G', J.yld i G x G' → g x (wipe τ vs) G' fun τ2 G2 => wipe τ2 vs = wipe τ vs ∧ tt τ2 G2 fun b G3 => if b = true then tk τ2 G3 fun y G4 => tv τ2 G4 fun z G5 => ∃ G6, DPut G5 D y z G6 ∧ Nx G6 else Nx G3)
abbrev blkOf (Z : Cx) (t : Shared) (G : Hp) (sc : Scope) (C : Addr) (cl : List (Str × Addr)) (fp : List Addr) : Cx := Z.blk t G sc (compEnvC sc cl C Z.env) fp
theorem core {pn : List (Addr × Obj)} {t0 : Shared} {τ : L2.St} {G0 : Hp} {Q : VK} {kx vx tg iter : Expr} {ifs : List Expr} {sc : Scope} {own : List (Str × Nat)} {p1 p2 : Pos} {wi : TI} {g : TG} {tt : TT} {tk tv : TE}
    {use : Option (Value → Sem Unit)} {Qf : Value → Shared → Prop} (room : Z.A.units < cLine) (calm : Z.calm = true) (nd : Z.N.Nodup) (I0 : L2.Inv Z pn τ G0 t0) (hi : PI Z tg iter wi) (ok : BlkOk Z.N Z.env.scope sc own)
    (hg : ∀ t G C cl fp, PG (blkOf Z t G sc C cl fp) tg g) (ht : ∀ t G C cl fp, PTs (blkOf Z t G sc C cl fp) ifs tt) (hk : ∀ t G C cl fp, PE (blkOf Z t G sc C cl fp) kx tk) (hv : ∀ t G C cl fp, PE (blkOf Z t G sc C cl fp) vx tv)
    (hs : ∀ x, foldedSetIterable iter Z.env x = pure x) (h : tDcT wi g tt tk tv (own.map (·.2)) τ G0 Q)
    (back : ∀ D C t' m G', L2.Inv Z pn τ G' t' → Q (.ref D) G' → t'.heap.Ns C m → FpOk Z pn G' C → compPost (model Z.prog Z.w) Z.A Z.xe use Qf (.ref D) C (.ok .next) t') :
    wpAny (model Z.prog Z.w) Z.A (comprehension (.DictComp kx vx [⟨tg, iter, ifs, 0⟩] sc p1) sc Z.env p2 newDict false (eval iter Z.env) use) Qf Z.xe t0 := by
  have cells : ∀ y ∈ sc.names, y.2 = .free → ∃ c, Z.env.cells.lookup y.1 = some c := by
    intro y hy e
    exact (ok.free y hy e).elim (fun k => I0.ok.has _ (.inl k)) fun k => I0.ok.has _ (.inr k)
  refine wpAny_comprehension_free (use := use) rfl hs (closure_ok cells) ok.kind (fun y hy e => by rw [ok.uniq y hy, e]) (thn (hi.run pn t0 τ G0 _ I0 h) fun _ _ got => thn got fun _ t2 h2 => ?_)
  obtain ⟨it, fp, tn, J, G2, rfl, I2, T, st2, f2, q⟩ := h2
  refine wpAny_newObj_type (newEnv_comp ?_)
  obtain ⟨D, eD⟩ : ∃ D, t2.heap.objs.size = D := ⟨_, rfl⟩
  rw [eD]
  obtain ⟨W, ⟨m0, w0⟩, turn⟩ := q D (I2.hok.fresh (Nat.le_of_eq eD))
  -- with the new dict
  obtain ⟨t3, e3⟩ : ∃ t3 : Shared, ({ t2 with heap := t2.heap.push { cls := .type "dict", data := .dict #[] } } : Shared) = t3 := ⟨_, rfl⟩
  have hp3 : t3.heap = t2.heap.push { cls := .type "dict", data := .dict #[] } := by rw [← e3]
  have I3 : L2.Inv Z pn τ (upd G2 D (.dT [])) t3 := by
    rw [← e3]
    exact I2.laid (t' := t2.toks) (fun b o e => Heap.get?_push_of_some _ e) (Nat.le_of_eq eD) (by rw [← eD]; exact dt_empty t2.heap I2.big)
  have f3 : ∀ b ∈ fp, FpOk Z pn (upd G2 D (.dT [])) b ∧ b < t3.heap.objs.size := by
    intro b hb
    obtain ⟨o, e, _⟩ := T.obj _ _ st2 b hb
    have lt := Heap.lt_size e
    have ne : b ≠ D := fun e => by
      rw [e, ← eD] at lt
      exact Nat.lt_irrefl _ lt
    exact ⟨⟨by rw [upd_ne ne]; exact (f2 b hb).1, (f2 b hb).2⟩, by rw [hp3, Heap.size_push]; exact Nat.lt_succ_of_lt lt⟩
  have st3 : tn 0 t3.heap := T.keep _ _ _ st2 fun b _ o e => (by rw [hp3]; exact Heap.get?_push_of_some _ e)
  have I4 := block_start I3 ok nd f3
  have pg := hg t3 (upd G2 D (.dT [])) t3.heap.objs.size (cellsFrom (t3.heap.objs.size + 1) sc.names (cloFrom Z.env.cells sc.names [])) fp
  have pt := ht t3 (upd G2 D (.dT [])) t3.heap.objs.size (cellsFrom (t3.heap.objs.size + 1) sc.names (cloFrom Z.env.cells sc.names [])) fp
  have pk := hk t3 (upd G2 D (.dT [])) t3.heap.objs.size (cellsFrom (t3.heap.objs.size + 1) sc.names (cloFrom Z.env.cells sc.names [])) fp
  have pv := hv t3 (upd G2 D (.dT [])) t3.heap.objs.size (cellsFrom (t3.heap.objs.size + 1) sc.names (cloFrom Z.env.cells sc.names [])) fp
  have bare : ∀ b ∈ fp, (upd G2 D (.dT [])) b = none := fun b hb => (f3 b hb).1.1
  -- the block's own frame
  show codeAny _ _ (.compStart (.DictComp kx vx [⟨tg, iter, ifs, 0⟩] sc p1) 0 (.ref it) (.ref D) (compEnvC sc (cellsFrom ((t2.heap.push { cls := .type "dict", data := .dict #[] }).objs.size + 1) sc.names (cloFrom Z.env.cells sc.names [])) (t2.heap.push { cls := .type "dict", data := .dict #[] }).objs.size Z.env))
    (compPost (model Z.prog Z.w) Z.A Z.xe use Qf (.ref D) (t2.heap.push { cls := .type "dict", data := .dict #[] }).objs.size) { t2 with heap := pushCells ((t2.heap.push { cls := .type "dict", data := .dict #[] }).push _) sc.names }
  rw [← hp3]
  have other : ∀ hh : Heap, ({ t2 with heap := hh } : Shared) = { t3 with heap := hh } := fun hh => by rw [← e3]
  rw [other]
  obtain ⟨ce, ece⟩ : ∃ ce, compEnvC sc (cellsFrom (t3.heap.objs.size + 1) sc.names (cloFrom Z.env.cells sc.names [])) t3.heap.objs.size Z.env = ce := ⟨_, rfl⟩
  have at_ : ce.locals = t3.heap.objs.size := by rw [← ece]; rfl
  have pg : PG (Z.blk t3 (upd G2 D (.dT [])) sc ce fp) tg g := by rw [← ece]; exact pg
  have pt : PTs (Z.blk t3 (upd G2 D (.dT [])) sc ce fp) ifs tt := by rw [← ece]; exact pt
  have pk : PE (Z.blk t3 (upd G2 D (.dT [])) sc ce fp) kx tk := by rw [← ece]; exact pk
  have pv : PE (Z.blk t3 (upd G2 D (.dT [])) sc ce fp) vx tv := by rw [← ece]; exact pv
  rw [ece] at I4 ⊢
  generalize upd G2 D (.dT []) = G3 at I3 I4 pg pt pk pv w0 bare f3
  generalize e4 : ({ t3 with heap := pushCells (t3.heap.push _) sc.names } : Shared) = t4 at I4 ⊢
  have st4 : tn 0 t4.heap := T.keep _ _ _ st3 fun b _ o e => by rw [← e4]; exact pushCells_keeps _ _ _ _ (Heap.get?_push_of_some _ e)
  let B : Cx := Z.blk t3 G3 sc ce fp
  have still : ∀ {τ' G' t'}, L2.Inv B [] τ' G' t' → (∀ b ∈ fp, G' b = none) → ∀ b ∈ fp, FpOk B [] G' b := by
    intro τ' G' t' I' hn b hb
    exact ⟨hn b hb, (I'.ok.exf b hb).1, I'.ok.exfs b hb, .inl hb, fun x c e => (I'.ok.exf b hb).2 x c e, fun p hp => absurd (show p ∈ ([] : List (Addr × Obj)) ++ [] from hp) (by simp)⟩
  have loop : codeAny (model Z.prog Z.w) Z.A (.compLoop (.DictComp kx vx [⟨tg, iter, ifs, 0⟩] sc p1) 0 (.ref it) (.ref D) ce) (compPost (model Z.prog Z.w) Z.A Z.xe use Qf (.ref D) t3.heap.objs.size) t4 := by
    refine compLoop_anyD (fun n t' => ∃ i G', L2.Inv B [] (wipe τ (own.map (·.2))) G' t' ∧ tn i t'.heap ∧ (∀ b ∈ fp, G' b = none) ∧ W i n G') (fun n t5 ⟨i, G5, I5, st5, n5, w5⟩ => ?_) m0 ⟨0, G3, I4, st4, bare, w0⟩
    rcases turn i n G5 w5 with ⟨stop, done⟩ | ⟨goes, Nx, less, step⟩
    · refine thnF (T.done B rfl rfl rfl calm i [] t5 _ G5 (fun _ _ => False) I5 (still I5 n5) st5 stop) fun r t6 ⟨hr, I6⟩ => ?_
      subst hr
      have I7 : L2.Inv Z pn τ G5 t6 := I3.call' (ch := fp) I6.os I6.base I6.hok I6.bare fun b hb => by
        obtain ⟨⟨_, a1, _, a3, a4, a5⟩, _⟩ := f3 b hb
        exact ⟨a3, a1, a4, a5⟩
      have free : G5 ce.locals = none := I6.free
      obtain ⟨m, hm, _⟩ := I6.loc
      have ns : t6.heap.Ns ce.locals m := hm
      rw [at_] at free ns
      exact back D _ t6 m G5 I7 done ns (I3.fpOk (Nat.le_refl _) free)
    · refine thnF (T.item B rfl rfl rfl calm i [] t5 _ G5 (fun _ _ => False) I5 (still I5 n5) st5 goes) fun r t6 ⟨u, hr, h6⟩ => ?_
      subst hr
      refine thnF h6 fun _ t7 ⟨x, G7, I7, r7, y7, st7, n7⟩ => ?_
      refine thnF (pg.run _ t7 _ G7 x u _ (I7.pinned (still I7 n7) (T.obj _ _ st7)) r7 (step x G7 y7)) fun _ t8 ⟨τ8, G8, I8, same8, q8⟩ => ?_
      have fin : ∀ {t' : Shared} {G' : Hp}, L2.Inv B ([] ++ pinsAt fp t7.heap) τ8 G' t' → Nx G' → ∃ m, m < n ∧ ∃ i G', L2.Inv B [] (wipe τ (own.map (·.2))) G' t' ∧ tn i t'.heap ∧ (∀ b ∈ fp, G' b = none) ∧ W i m G' := by
        intro t' G' I' nx
        obtain ⟨m', hm, w'⟩ := less G' nx
        have kept : ∀ b ∈ fp, ∀ o, t7.heap.get? b = some o → t'.heap.get? b = some o ∧ G' b = none := fun b hb o e =>
          let k := I'.pin (b, o) (List.mem_append_right _ (List.mem_append_right _ (mem_pinsAt hb e)))
          ⟨k.1, k.2.1⟩
        refine ⟨m', hm, i + 1, G', (I'.unpinned (pins := [])).weak (by rw [← same8, wipe_length]) (fun j v e => ?_), T.keep _ _ _ st7 fun b hb o e => (kept b hb o e).1, fun b hb => ?_, w'⟩
        · rw [← same8] at e
          exact (wipe_some e).1
        · obtain ⟨o, e, _⟩ := T.obj _ _ st7 b hb
          exact (kept b hb o e).2
      refine thnF (pt.run _ t8 τ8 G8 _ I8 q8) fun b t9 ⟨G9, I9, q9⟩ => ?_
      cases b with
      | false => exact fin I9 q9
      | true =>
        refine thnF (pk.run _ t9 τ8 G9 _ I9 q9) fun u1 t10 ⟨yk, G10, I10, r10, q10⟩ => ?_
        refine thnF (pv.run _ t10 τ8 G10 _ I10 q10) fun u2 t11 ⟨yv, G11, I11, r11, G12, put, nx⟩ => ?_
        exact store (Z := B) room I11 put r10 r11 fun t12 I12 => fin I12 nx
  exact codeAny_compStart_dict loop (T.self Z.A 0 _ _ _ st4 loop)
/-- as a value -/
theorem pe_dcT {kx vx tg iter : Expr} {ifs : List Expr} {sc : Scope} {own : List (Str × Nat)} {pos : Pos} {wi : TI} {g : TG} {tt : TT} {tk tv : TE} (room : Z.A.units < cLine) (calm : Z.calm = true) (nd : Z.N.Nodup) (hi : PI Z tg iter wi) (ok : BlkOk Z.N Z.env.scope sc own)
    (hg : ∀ t G C cl fp, PG (blkOf Z t G sc C cl fp) tg g) (ht : ∀ t G C cl fp, PTs (blkOf Z t G sc C cl fp) ifs tt) (hk : ∀ t G C cl fp, PE (blkOf Z t G sc C cl fp) kx tk) (hv : ∀ t G C cl fp, PE (blkOf Z t G sc C cl fp) vx tv)
    (hs : ∀ x, foldedSetIterable iter Z.env x = pure x := by intro _; rfl) : PE Z (.DictComp kx vx [⟨tg, iter, ifs, 0⟩] sc pos) (tDcT wi g tt tk tv (own.map (·.2))) := by
  refine ⟨fun pn t τ G Q I h => ?_⟩
  rw [arm_eval_DictComp]
  exact core room calm nd I hi ok hg ht hk hv hs h fun D C t' m G' I' q hn ⟨f0, f1, _, f3, f4, f5⟩ => ⟨m, hn, fun h'' sb => ⟨.ref D, G', I'.turned (t' := t'.toks) (fun b o hb e => (sb.2 b hb).trans e) f0 f1 f3 f4 f5, rfl, q⟩⟩
end
end DcT

namespace EnT
open PySem PySem.Spec PyProof.Rows L2
/-! ### a list or a tuple walked; enumerate of a tuple -/
section
variable {X : Cx} {tg : Expr}
def iSeq (K : PySem.W.Frag) (te : TE) : TI := fun σ H R => te σ H fun v H1 => ∃ (a : Addr) (xs : List V), v = .ref a ∧ ((SqL K H1 a xs ∧ R (Itl K a) H1) ∨ (SqT K H1 a xs ∧ R (Itt K a) H1))
theorem pi_seq {e : Expr} {te : TE} (he : PE X e te) : PI X tg e (iSeq X.K te) := by
  refine ⟨fun pins s σ H R I h => thn (he.run pins s σ H _ I h) fun v s1 ⟨x, H1, I1, r1, a, xs, ex, q⟩ => ?_⟩
  subst ex
  cases r1
  have mine : ∀ b, b ∈ [s1.heap.objs.size] → FpOk X pins H1 b := fun b hb => by
    rw [List.mem_singleton.mp hb]
    exact I1.fpOk (Nat.le_refl _) (I1.hok.fresh (Nat.le_refl _))
  rcases q with ⟨hq, q⟩ | ⟨hq, q⟩
  · obtain ⟨its, _, p, _⟩ := I1.list hq
    refine wpAny_pyIter_list p.isList ⟨_, [s1.heap.objs.size], _, _, H1, rfl, I1.kept (t' := s1.toks) (fun b o e => Heap.get?_push_of_some _ e), turn_list a _, ⟨_, Heap.get?_push_size _ rfl, rfl, rfl⟩, mine, q⟩
  · obtain ⟨its, _, p, _⟩ := I1.tuple hq
    refine wpAny_pyIter_tuple (show s1.heap.IsTuple a its.toArray from p) ⟨_, [s1.heap.objs.size], _, _, H1, rfl, I1.kept (t' := s1.toks) (fun b o e => Heap.get?_push_of_some _ e), turn_tuple a _, ⟨_, Heap.get?_push_size _ rfl, rfl, rfl⟩, mine, q⟩
end
set_option maxHeartbeats 1000000 in
theorem meets_enum1 {v : Value} {o : Obj} {H : Heap → Prop} (B : Begins v o H) :
    Meets (Builtin.«enumerate.__new__» ⟨[.type "enumerate", v], []⟩) (fun _ R s => H s.heap ∧ R (.ok (.ret (.ref (s.heap.push o).objs.size))) { s with heap := (s.heap.push o).push { cls := .type "enumerate", data := .fields #[.none, .bool false, .ref s.heap.objs.size, rawInt 0, .none, .none] } }) :=
  .of_wp fun prog w A R s h => by
    obtain ⟨hp, g, d, tk, os⟩ := s
    obtain ⟨h1, h⟩ := h
    have hsub := sub_enumerate
    have q1 : ∀ {A' : Around} {E : Value → Shared → Prop} {Q : Value → Shared → Prop}, Q (.ref hp.objs.size) ⟨hp.push o, g, d, tk, os⟩ → wpAny (model prog w) A' (pyIter v) Q E ⟨hp, g, d, tk, os⟩ := fun q => B.iter prog w _ _ ⟨hp, g, d, tk, os⟩ _ h1 q
    wp_walk using q1
    refine wpAny_stack_any fun st => wpAny_pure ?_
    split
    · rename_i c _ _ _ _ _
      cases (c == Value.type "enumerate") <;> (wp_walk using q1; exact ⟨_, rfl, h⟩)
    · wp_walk using q1
      exact ⟨_, rfl, h⟩
theorem enum1 {prog : Program} {w : World} {A : Around} {E : Value → Shared → Prop} {s : Shared} {v : Value} {o : Obj} {H : Heap → Prop} {Q : Value → Shared → Prop} (B : Begins v o H) (h1 : H s.heap)
    (h : ∀ h', IsEnum h' (s.heap.objs.size + 1) s.heap.objs.size 0 .none → h'.get? s.heap.objs.size = some o → (∀ b ob, s.heap.get? b = some ob → h'.get? b = some ob) → Q (.ref (s.heap.objs.size + 1)) { s with heap := h' }) :
    wpAny (model prog w) A (call (.type "enumerate") [v]) Q E s := by
  refine callType_new F.called_enumerate (by decide) (F.typeCall_enumerate_1 _) (F.newCall_enumerate_1 _) (fun obj => F.args_object_init_2 obj _) F.entry_enumerate_new (meets_enum1 B) ⟨h1, ?_⟩
  have z : (s.heap.push o).objs.size = s.heap.objs.size + 1 := Heap.size_push ..
  have e : IsEnum ((s.heap.push o).push { cls := .type "enumerate", data := .fields #[.none, .bool false, .ref s.heap.objs.size, rawInt 0, .none, .none] }) (s.heap.objs.size + 1) s.heap.objs.size 0 .none := by
    rw [← z]
    exact Heap.get?_push_size (s.heap.push o) rfl
  show _ ∧ _
  rw [z]
  exact ⟨⟨_, e, rfl⟩, h _ e (Heap.get?_push_of_some _ (Heap.get?_push_size _ B.free)) fun b ob x => Heap.get?_push_of_some _ (Heap.get?_push_of_some _ x)⟩
/-- the tuple at a, each item in a new pair -/
def IteT (K : PySem.W.Frag) (a : Addr) : It :=
  ⟨fun i H => ∃ (xs : List V) (x : V), SqT K H a xs ∧ xs[i]? = some x, fun i H v H' => ∃ T x, v = .ref T ∧ H T = none ∧ H' = upd H T (.tup [.int (i : Nat), x]) ∧ ∀ xs, SqT K H a xs → xs[i]? = some x, fun i H => ∃ xs : List V, SqT K H a xs ∧ xs.length = i⟩
theorem turn_enumT {P : Program} {w : World} {K : PySem.W.Frag} {elts : List Expr} {kk : Nat} {tpos : Pos} (a e it : Addr) :
    Turn P w K (.Tuple elts kk tpos) (IteT K a) [e, it] e (fun i h => (∃ old, IsEnum h e it ((i : Nat) : Int) old) ∧ h.IsTupleIter it a i ∧ e ≠ it) where
  mem := List.mem_cons_self
  obj := fun i h ⟨⟨old, he⟩, ⟨o, ho, hc, hd⟩, _⟩ b hb => by
    rcases List.mem_cons.mp hb with z | z
    · rw [z]
      exact ⟨_, he, fun v q => nomatch q⟩
    · rw [List.mem_singleton.mp z]
      exact ⟨o, ho, fun v q => by rw [hd] at q; cases q⟩
  keep := fun i h h' ⟨⟨old, he⟩, hi, hne⟩ k => ⟨⟨old, k e (by simp) _ he⟩, hi.at fun o q => k it (by simp) o q, hne⟩
  item := by
    intro X hP hw hK hc i pins s σ H E I hf st hg
    subst hP hw hK
    obtain ⟨⟨old, he⟩, hit, hne⟩ := st
    obtain ⟨xs, x, hq, hx⟩ := hg
    obtain ⟨its, rv, p, hz⟩ := I.tuple hq
    obtain ⟨u, hu, ru⟩ := rv.get hx
    have el : e < s.heap.objs.size := Heap.lt_size he
    have il : it < s.heap.objs.size := by
      obtain ⟨_, q, _⟩ := hit
      exact Heap.lt_size q
    have ht : s.heap.IsTuple a its.toArray := p
    have ae : a ≠ e := fun z => by
      obtain ⟨o, ho, hcl, _⟩ := ht
      rw [z, he] at ho
      cases ho
      injection hcl with hcl
      exact absurd hcl (by decide)
    have ai : a ≠ it := fun z => by
      obtain ⟨o, ho, hcl, _⟩ := ht
      obtain ⟨o', ho', hc', _⟩ := hit
      rw [z, ho'] at ho
      cases ho
      rw [hc'] at hcl
      exact absurd hcl (by decide)
    have lx : i < its.toArray.size := by
      rw [List.size_toArray]
      exact (List.getElem?_eq_some_iff.mp hu).1
    have nf : e ∉ [it, a] := fun z => (List.mem_cons.mp z).elim hne fun y => ae (List.mem_singleton.mp y).symm
    refine wpAny_pyNext_enum_itemD (Draws.tuple (prog := X.prog) (w := X.w) (A := X.A.in1) (I.ok.hd hc) it a ai its.toArray) he ⟨hit, ht⟩ lx hne nf fun y h' tk hP ho st' hT hsz hk => ?_
    have ey : y = u := by
      have : its.toArray[i]? = some y := hP
      rw [List.getElem?_toArray, hu] at this
      exact (Option.some.inj this).symm
    subst ey
    refine ⟨_, rfl, wpAny_letOwnedTupleGo_enum (s := { s with heap := h', toks := tk + 1 }) ho fun h'' he' sb => ?_⟩
    have at_ : h''.get? s.heap.objs.size = some { cls := .type "tuple", data := .seq #[.int i tk, y] } := (sb.2 _ (Nat.ne_of_gt el)).trans hT
    have mine : ObjOk X.prog X.w (upd H s.heap.objs.size (.tup [.int (i : Nat), x])) h'' s.heap.objs.size (.tup [.int (i : Nat), x]) :=
      ⟨by show 2 ≤ sizeLine; decide, [.int i tk, y], .cons ⟨_, rfl⟩ (.cons ru .nil), ⟨_, at_, rfl, _, rfl⟩⟩
    have I1 : L2.Inv X pins σ (upd H s.heap.objs.size (.tup [.int (i : Nat), x])) { s with heap := h'', toks := tk + 1 } :=
      I.turnedNew (ch := [e, it]) (fun b ob hb q => (sb.2 b (fun z => hb (by simp [z]))).trans (hk b ob (fun z => hb (by simp [z])) (fun z => hb (by simp [z])) q)) hf (Nat.le_refl _) mine
    refine ⟨.ref s.heap.objs.size, _, I1, rfl, ⟨_, x, rfl, I.hok.fresh (Nat.le_refl _), rfl, fun ys hy => by rw [I.tuple_inj hy hq]; exact hx⟩, ⟨⟨y, ?_⟩, st'.1.at fun o q => (sb.2 it (Ne.symm hne)).trans q, hne⟩, fun b hb => ?_⟩
    · rw [show ((i + 1 : Nat) : Int) = (i : Int) + 1 by omega]
      exact he'
    · have lt : b < s.heap.objs.size := (List.mem_cons.mp hb).elim (fun z => by rw [z]; exact el) fun z => by rw [List.mem_singleton.mp z]; exact il
      rw [upd_ne (Nat.ne_of_lt lt)]
      exact (hf b hb).1
  done := by
    intro X hP hw hK hc i pins s σ H E I hf st hg
    subst hP hw hK
    obtain ⟨⟨old, he⟩, hit, hne⟩ := st
    obtain ⟨xs, hq, hx⟩ := hg
    obtain ⟨its, rv, p, hz⟩ := I.tuple hq
    have ht : s.heap.IsTuple a its.toArray := p
    have ai : a ≠ it := fun z => by
      obtain ⟨o, ho, hcl, _⟩ := ht
      obtain ⟨o', ho', hc', _⟩ := hit
      rw [z, ho'] at ho
      cases ho
      rw [hc'] at hcl
      exact absurd hcl (by decide)
    have le : i = its.toArray.size := by
      rw [List.size_toArray, ← rv.length]
      exact hx.symm
    subst le
    obtain ⟨f0, f1, f2, f3, f4, f5⟩ := hf it (by simp)
    exact wpAny_pyNext_enum_endD (Draws.tuple (prog := X.prog) (w := X.w) (A := X.A.in1) (I.ok.hd hc) it a ai its.toArray) he ⟨hit, ht⟩ fun h' eb => ⟨rfl, I.turned (t' := s.toks) (fun b o hb q => eb b o hb q) f0 f1 f3 f4 f5⟩
  self := fun A i s Q E ⟨⟨_, he⟩, _⟩ h => wpAny_pyIter_enum he h
section
variable {X : Cx} {tg : Expr}
def iEnumS (K : PySem.W.Frag) (ta : TA) : TI := fun σ H R => ta σ H fun vs H1 => ∃ (a : Addr) (xs : List V), vs = [.ref a] ∧ ((SqL K H1 a xs ∧ R (Ite K a) H1) ∨ (SqT K H1 a xs ∧ R (IteT K a) H1))
theorem pi_enumS {e : Expr} {ta : TA} {p pos tpos : Pos} {elts : List Expr} {kk : Nat} (hg : Gl X "enumerate") (hm : X.mg "enumerate" = none) (ha : PA X [e] ta) (hs : starEach [e] X.env = [(false, eval e X.env)] := by rfl) :
    PI X (.Tuple elts kk tpos) (.Call (.Name "enumerate" p) [e] [] pos) (iEnumS X.K ta) := by
  refine ⟨fun pins s σ H R I h => Call_ (ld_blt I hg hm boot_enumerate (PyProof.Rows.callWith_type1 (thn (ha.run pos pins s σ H _ I h) fun us s1 ⟨vs, H1, I1, r1, a, xs, ex, q⟩ => ?_) hs rfl))⟩
  subst ex
  obtain ⟨u, rfl, ru⟩ := vals1 r1
  cases ru
  have mine : ∀ b ∈ [s1.heap.objs.size + 1, s1.heap.objs.size], FpOk X pins H1 b := fun b hb => by
    have le : s1.heap.objs.size ≤ b := (List.mem_cons.mp hb).elim (fun z => by rw [z]; exact Nat.le_succ _) fun z => by rw [List.mem_singleton.mp z]; exact Nat.le_refl _
    exact I1.fpOk le (I1.hok.fresh le)
  rcases q with ⟨hq, q⟩ | ⟨hq, q⟩
  · obtain ⟨its, _, p', _⟩ := I1.list hq
    refine call_enumerate_list p'.isList fun h' he hit _ hk => wpAny_pyIter_enum he ?_
    exact ⟨_, _, _, _, H1, rfl, I1.kept (t' := s1.toks) hk, turn_enum a (s1.heap.objs.size + 1) s1.heap.objs.size, ⟨⟨.none, he⟩, hit, Nat.succ_ne_self _⟩, mine, q⟩
  · obtain ⟨its, _, p', _⟩ := I1.tuple hq
    refine enum1 (begins_tuple a its.toArray) (show s1.heap.IsTuple a its.toArray from p') fun h' he hit hk => wpAny_pyIter_enum he ?_
    exact ⟨_, _, _, _, H1, rfl, I1.kept (t' := s1.toks) hk, turn_enumT a (s1.heap.objs.size + 1) s1.heap.objs.size, ⟨⟨.none, he⟩, ⟨_, hit, rfl, rfl⟩, Nat.succ_ne_self _⟩, mine, q⟩
end
/-- a walk of n turns -/
theorem for_any {J : It} {n : Nat} {g : TG} {tb : TS} {D : Ends} {σ : L2.St} {H : Hp} (Pv : Nat → L2.St → Hp → Prop) (h0 : Pv 0 σ H)
    (go : ∀ i σ H, i < n → Pv i σ H → J.go i H ∧ ∀ x H', J.yld i H x H' → g x σ H' fun σ2 H2 => tb { D with nx := Pv (i + 1), ct := Pv (i + 1), bk := D.nx } σ2 H2) (stop : ∀ σ H, Pv n σ H → J.stop n H ∧ D.nx σ H) :
    ∃ W : Nat → Nat → L2.St → Hp → Prop, (∃ m, W 0 m σ H) ∧ ∀ i m σ H, W i m σ H →
      (J.stop i H ∧ D.nx σ H) ∨ (J.go i H ∧ ∃ N : L2.St → Hp → Prop, (∀ σ' H', N σ' H' → ∃ m', m' < m ∧ W (i + 1) m' σ' H') ∧ ∀ x H', J.yld i H x H' → g x σ H' fun σ2 H2 => tb { D with nx := N, ct := N, bk := D.nx } σ2 H2) := by
  refine ⟨fun i m σ H => m + i = n ∧ Pv i σ H, ⟨n, rfl, h0⟩, fun i m σ H ⟨e, p⟩ => ?_⟩
  by_cases lt : i < n
  · obtain ⟨a, b⟩ := go i σ H lt p
    exact .inr ⟨a, Pv (i + 1), fun σ' H' p' => ⟨m - 1, by omega, by omega, p'⟩, b⟩
  · have : i = n := by omega
    subst this
    exact .inl (stop σ H p)
open DcT in
/-- a dict of tuple keys, filled in n turns -/
theorem dc_any {J : It} {n : Nat} {g : TG} {tt : TT} {tk tv : TE} {vs : List Nat} {σ : L2.St} {H1 : Hp} {D : Addr} {Qd : Hp → Prop} (Pv : Nat → Hp → Prop) (h0 : Pv 0 (upd H1 D (.dT [])))
    (go : ∀ i H, i < n → Pv i H → J.go i H ∧ ∀ x H', J.yld i H x H' → g x (wipe σ vs) H' fun σ2 H2 => wipe σ2 vs = wipe σ vs ∧ tt σ2 H2 fun b H3 =>
      if b = true then tk σ2 H3 fun y H4 => tv σ2 H4 fun z H5 => ∃ H6, DPut H5 D y z H6 ∧ Pv (i + 1) H6 else Pv (i + 1) H3) (stop : ∀ H, Pv n H → J.stop n H ∧ Qd H) :
    ∃ W : Nat → Nat → Hp → Prop, (∃ m, W 0 m (upd H1 D (.dT []))) ∧ ∀ i m H, W i m H → (J.stop i H ∧ Qd H) ∨ (J.go i H ∧ ∃ Nx : Hp → Prop, (∀ H', Nx H' → ∃ m', m' < m ∧ W (i + 1) m' H') ∧
      ∀ x H', J.yld i H x H' → g x (wipe σ vs) H' fun σ2 H2 => wipe σ2 vs = wipe σ vs ∧ tt σ2 H2 fun b H3 => if b = true then tk σ2 H3 fun y H4 => tv σ2 H4 fun z H5 => ∃ H6, DPut H5 D y z H6 ∧ Nx H6 else Nx H3) := by
  refine ⟨fun i m H => m + i = n ∧ Pv i H, ⟨n, rfl, h0⟩, fun i m H ⟨e, p⟩ => ?_⟩
  by_cases lt : i < n
  · obtain ⟨a, b⟩ := go i H lt p
    exact .inr ⟨a, Pv (i + 1), fun H' p' => ⟨m - 1, by omega, by omega, p'⟩, b⟩
  · have : i = n := by omega
    subst this
    exact .inl (stop H p)
end EnT

namespace SetQ
open PySem PySem.Spec PyProof.Rows L2 PySem.Froz
open Sem (wp)
/-! ### set(xs), xs a list of texts, now and then the same one again -/
theorem strs_at : ∀ {vs : List Value} {xs : List Str}, StrsAre vs xs → ∀ (i : Nat) (v : Value), vs[i]? = some v → ∃ x t, xs[i]? = some x ∧ v = .str x t
  | _, _, .nil, i, v, h => by simp at h
  | _, _, .cons x t r, 0, v, h => ⟨x, t, rfl, (Option.some.inj h).symm⟩
  | _, _, .cons x t r, i + 1, v, h => strs_at r i v h
section
variable {P : Program} {w : World} {A : Around} {R : Result → Shared → Prop} {I : Addr} {fp wr : List Addr} {G : Array GenState → Array GenState → Prop} {n : Nat} {Pv : Nat → Value → Prop} {St : Nat → Shared → Prop}
theorem set_update_strs (W : WalksS P w A.in1 I fp wr G n Pv St) (S : Addr) (hSf : S ∉ fp) {T : String} (xs : List Str) (hn : n = xs.length) (hval : ∀ i v, Pv i v → ∃ x t, xs[i]? = some x ∧ v = .str x t) (hb : xs.length < scanBound) (led : Bool) :
    ∀ (k i : Nat) (s : Shared) (D : SD) (l : List Str), n - i = k → i ≤ n → St i s → s.heap.get? S = some (sObj T D) → TxOk P w D l → l.Nodup → Ris D.2.2.place.toList → D.2.2.led = led → (∀ y, y ∈ l ↔ y ∈ xs.take i) → l.length ≤ i →
      (∀ s' D l, Moved (S :: wr) G s s' → s'.heap.get? S = some (sObj T D) → TxOk P w D l → l.Nodup → Ris D.2.2.place.toList → D.2.2.led = led → (∀ y, y ∈ l ↔ y ∈ xs) → l.length ≤ xs.length → R (.ok (.ret .none)) s') →
      codeAny (model P w) A (.builtin "set.update.loop" ⟨[.ref S, .ref I], []⟩) R s := by
  have hSw : S ∉ wr := fun h => hSf (W.sub _ h)
  have hsub : ∀ b ∈ wr, b ∈ S :: wr := fun b hb => List.mem_cons_of_mem _ hb
  intro k
  induction k with
  | zero =>
    intro i s D l hk hi hst ho F nd ris hl mem len hR
    have hin : i = xs.length := by omega
    have hin' : i = n := by omega
    refine codeAny_builtin PyProof.Rows.F.entry_set_update_loop ?_
    rw [Around.under_plainId PyProof.Rows.F.plain_set_update_loop _]
    show wpAny _ A.in1 (pyNext (.ref I) >>= _) _ _ s
    refine wpAny_bind (W.done s _ _ (hin' ▸ hst) fun s' hm => ?_)
    show wpAny _ A.in1 (ret Value.none) _ _ s'
    refine wpAny_pure (hR s' D l (hm.mono hsub) (hm.heap S _ hSw ho) F nd ris hl (fun y => ?_) (by omega))
    rw [mem, hin, List.take_length]
  | succ k ih =>
    intro i s D l hk hi hst ho F nd ris hl mem len hR
    have hlt : i < n := by omega
    refine codeAny_builtin PyProof.Rows.F.entry_set_update_loop ?_
    rw [Around.under_plainId PyProof.Rows.F.plain_set_update_loop _]
    show wpAny _ A.in1 (pyNext (.ref I) >>= _) _ _ s
    refine wpAny_bind (W.item i s _ _ hlt hst fun v s' hP hst' hm => ?_)
    obtain ⟨x, t, hx, rfl⟩ := hval i v hP
    have ho' := hm.heap S _ hSw ho
    show wpAny _ A.in1 (holding [Value.str x t] (setAdd S (.str x t)) >>= _) _ _ s'
    refine wpAny_bind (wpAny_holding ?_)
    unfold setAdd
    refine wpAny_holding ?_
    refine wpAny_bind ((strKind P w).pyHash (k := x) (is_str _ _) ?_)
    have tk : xs.take (i + 1) = xs.take i ++ [x] := by
      rw [List.take_add_one, hx]
      rfl
    by_cases hcl : x ∈ l
    · refine add_old (l := l) (D := D) (s := { s' with toks := s'.toks + 1 }) ho' F hcl (by omega) ?_
      refine wpAny_pure ⟨plainId_quiet PyProof.Rows.F.plain_set_update_loop _, ih (i + 1) _ D l (by omega) hlt (W.frame _ s' s'.heap _ hst' (Nat.le_succ _) fun b _ o e => e) ho' F nd ris hl (fun y => ?_) (by omega) fun s'' D' l' hm'' => hR s'' D' l' (Moved.trans W.gtrans ((hm.mono hsub).then_heap (Nat.le_succ _) fun b o _ e => e) hm'')⟩
      rw [mem, tk, List.mem_append, List.mem_singleton]
      constructor
      · exact .inl
      · rintro (q | rfl)
        · exact q
        · exact (mem _).mp hcl
    · refine add_x (l := l) (D := D) (s := { s' with toks := s'.toks + 1 }) ho' F hcl (by omega) ?_
      have ho2 : (s'.heap.update S (fun _ => sObj T (addTx (hashStr w x) (.str x t) D))).get? S = some (sObj T (addTx (hashStr w x) (.str x t) D)) := get_upd _ ho' rfl
      have rr := addTx_ris (hashStr w x) (.str x t) D ris
      refine wpAny_pure ⟨plainId_quiet PyProof.Rows.F.plain_set_update_loop _, ih (i + 1) _ _ (x :: l) (by omega) hlt (W.frame _ s' _ _ hst' (Nat.le_succ _) fun b hb o e => PySem.Heap.get?_update_of_ne _ (fun z => hSf (by rw [z]; exact hb)) e) ho2 (add_ok t F) (List.nodup_cons.mpr ⟨hcl, nd⟩) rr.1 (rr.2.trans hl) (fun y => ?_)
        (by show l.length + 1 ≤ i + 1; omega) fun s'' D' l' hm'' => hR s'' D' l' (Moved.trans W.gtrans ((hm.mono hsub).then_heap (Nat.le_succ _) fun b o hb e => PySem.Heap.get?_update_of_ne _ (fun z => hb (by rw [z]; exact List.mem_cons_self)) e) hm'')⟩
      rw [tk, List.mem_append, List.mem_singleton, List.mem_cons, mem]
      exact Or.comm
end
section
variable {P : Program} {w : World} {A : Around} {E : Value → Shared → Prop} {s : Shared}
set_option maxHeartbeats 3200000 in
/-- set(xs): its payload; what stood stands -/
theorem call_setL {l : Addr} {items : Array Value} {xs : List Str} {Q : Value → Shared → Prop} (hh : A.handled = none) (hl : s.heap.IsList l items) (hi : StrsAre items.toList xs) (hb : xs.length < scanBound)
    (h : ∀ (h' : Heap) (tk : Nat) (D : SD) (m : List Str), h'.get? s.heap.objs.size = some (sObj "set" D) → TxOk P w D m → Ris D.2.2.place.toList → D.2.2.led = (!w.params.followText "set-order") → m.Nodup → (∀ y, y ∈ m ↔ y ∈ xs) → m.length ≤ xs.length →
      (∀ b o, s.heap.get? b = some o → h'.get? b = some o) → Q (.ref s.heap.objs.size) { s with heap := h', toks := tk }) :
    wpAny (model P w) A (call (.type "set") [.ref l]) Q E s := by
  have hsz : items.size = xs.length := by
    rw [← Array.length_toList]
    exact hi.length
  obtain ⟨c, tl, hmro⟩ := F.called_set.mro
  have hmade := F.called_set.made
  have hsub := F.called_set.sub
  refine wpAny_call (codeAny_of_tree ?_)
  show wpAny _ _ (callAny (.type "set") _) _ _ _
  refine wpAny_pure ⟨Code.quiet_builtin _ (by decide +kernel), codeAny_builtin F.entry_type_call ?_⟩
  rw [Around.under_plain (weight_type_call_type "set" [.ref l] []) rfl]
  have n1 := F.called_set.notType
  have n2 := F.called_set.canCreate
  have n3 := F.typeCall_set_1 (.ref l)
  repeat (any_goals (first | assumption | wp_step))
  refine codeAny_mono (new_set1 (.ref l) (E := E) (Q₁ := fun obj s₁ => obj = .ref s.heap.objs.size ∧ s₁ = { s with heap := s.heap.push (setObj0 w) }) ⟨rfl, rfl⟩) fun r s₁ hr => ?_
  cases r with
  | error e => exact hr
  | ok fl =>
    cases fl with
    | ret obj =>
      obtain ⟨rfl, rfl⟩ := hr
      have at0 : (s.heap.push (setObj0 w)).get? s.heap.objs.size = some (setObj0 w) := Heap.get?_push_size _ rfl
      have ty0 : Shared.TypeIs { s with heap := s.heap.push (setObj0 w) } (.ref s.heap.objs.size) "set" := ⟨_, at0, rfl⟩
      have hli := F.called_set.init.lookup
      have hbi := F.called_set.init.bind (.ref s.heap.objs.size)
      repeat (any_goals (first | assumption | wp_step))
      refine codeAny_mono (codeAny_call_builtin (R := wants (fun r s₂ => r = .none ∧ ∃ h' tk D m, s₂ = { s with heap := h', toks := tk } ∧ h'.get? s.heap.objs.size = some (sObj "set" D) ∧ TxOk P w D m ∧ m.Nodup ∧ (∀ y, y ∈ m ↔ y ∈ xs) ∧ m.length ≤ xs.length ∧ Ris D.2.2.place.toList ∧
          D.2.2.led = (!w.params.followText "set-order") ∧ ∀ b o, s.heap.get? b = some o → h'.get? b = some o) E) F.called_set.init.plain F.entry_set_init (check_set_init_1 ty0 ?_)) fun r₂ s₂ hr₂ => ?_
      · obtain ⟨ol, hol, hcl, nl, hdl⟩ := hl
        obtain ⟨ocls, odict, odata, oslots⟩ := ol
        simp only at hcl hdl
        subst hcl
        subst hdl
        have hol' : (s.heap.push (setObj0 w)).get? l = some { cls := .type "list", dict := odict, data := .seq items nl, slots := oslots } := Heap.get?_push_of_some _ hol
        have hsls := F.sub_list_set
        have hslf := F.sub_list_frozenset
        have hne : (Value.type "list" == Value.type "dict") = false := by decide
        have hl1 : (s.heap.push (setObj0 w)).IsList l items := ⟨_, hol', rfl, nl, rfl⟩
        unfold Builtin.«set.__init__» noKeywords Builtin.Frozenset.updateFrom
        generalize hPI : pyIter = PI
        wp_walk
        subst hPI
        refine wpAny_pyIter_list hl1 ?_
        refine wpAny_bind (wpAny_runValue ?_)
        have hlS : l < s.heap.objs.size := Heap.lt_size hol
        have hh3 : A.in1.in1.in1.handled = none := by simp [hh]
        have hneI : l ≠ (s.heap.push (setObj0 w)).objs.size := by
          rw [Heap.size_push]
          exact Nat.ne_of_lt (Nat.lt_succ_of_lt hlS)
        have hSf : s.heap.objs.size ∉ [(s.heap.push (setObj0 w)).objs.size, l] := by
          rw [Heap.size_push]
          simp only [List.mem_cons, List.mem_singleton, List.not_mem_nil, or_false, not_or]
          exact ⟨Nat.ne_of_lt (Nat.lt_succ_self _), Nat.ne_of_gt hlS⟩
        have hval : ∀ (i : Nat) (v : Value), items[i]? = some v → ∃ x t, xs[i]? = some x ∧ v = .str x t := fun i v hv => strs_at hi i v (by rw [Array.getElem?_toList]; exact hv)
        refine set_update_strs ((Walks.list hh3 _ l hneI items).toS) s.heap.objs.size hSf (T := "set") xs hsz hval hb (!w.params.followText "set-order") (items.size - 0) 0 _ (#[], 0, freshT w) [] (by omega) (Nat.zero_le _)
          ⟨⟨_, Heap.get?_push_size _ rfl, rfl, rfl⟩, (hl1.push _)⟩ (Heap.get?_push_of_some _ at0) (TxOk.nil (by rfl)) List.nodup_nil List.Pairwise.nil rfl (fun y => by simp) (Nat.le_refl _) ?_
        intro s' D m hm hS' F' nd' ris' led' mem' len'
        obtain ⟨h', g', d', tk', os'⟩ := s'
        have eg : g' = s.gens := hm.gens
        have ed : d' = s.drawn := hm.drawn
        have eo : os' = s.os := hm.os
        subst eg
        subst ed
        subst eo
        show wpAny _ _ _ _ _ _
        refine wpAny_pure ?_
        show wpAny _ _ (ret Value.none) _ _ _
        refine wpAny_pure ⟨rfl, h', tk', D, m, rfl, hS', F', nd', mem', len', ris', led', fun b o e => ?_⟩
        have hlt := Heap.lt_size e
        have hb1 : b ≠ s.heap.objs.size := Nat.ne_of_lt hlt
        have hb2 : b ≠ (s.heap.push (setObj0 w)).objs.size := by
          rw [Heap.size_push]
          exact Nat.ne_of_lt (Nat.lt_succ_of_lt hlt)
        exact hm.heap b o (by simp only [List.mem_cons, List.mem_singleton, List.not_mem_nil, or_false, not_or]; exact ⟨hb1, hb2⟩) (Heap.get?_push_of_some _ (Heap.get?_push_of_some _ e))
      · cases r₂ with
        | error e => exact hr₂
        | ok fl₂ =>
          cases fl₂ with
          | ret r =>
            obtain ⟨rfl, h', tk, D, m, rfl, g1, g2, g6, g7, g8, g3, g4, g5⟩ := hr₂
            repeat (any_goals (first | assumption | wp_step))
            exact h _ _ D m g1 g2 g3 g4 g6 g7 g8 g5
          | _ => exact hr₂.elim
    | _ => exact hr.elim
end
section
variable {X : Cx}
def rSetL (P : Program) (w : World) (K : PySem.W.Frag) : List V → Hp → VK → Prop := fun vs H Q => ∃ (a : Addr) (xs : List Str), vs = [.ref a] ∧ SqL K H a (xs.map V.str) ∧ xs.length < 64 ∧
  ∀ (p : Addr) (m : List Str), H p = none → m.Nodup → (∀ y, y ∈ m ↔ y ∈ xs) → m.length ≤ xs.length → Q (.ref p) (upd H p (SetTx P w p m))
theorem cr_setL (hc : X.calm = true) : CallR X (.type "set") (rSetL X.prog X.w X.K) := by
  intro pins s σ H vs us Q I r h
  obtain ⟨a, xs, rfl, hs, len, q⟩ := h
  obtain rfl := Vals.ref1 r
  obtain ⟨its, rv, hl, _⟩ := I.list hs
  refine call_setL (I.ok.hd hc) hl.isList (by exact rv.strs) (Nat.lt_of_lt_of_le len (by unfold scanBound; decide)) fun h' tk D m g1 g2 g3 g4 nd mem le k => ?_
  have w1 : ∃ D, h'.get? s.heap.objs.size = some (sObj "set" D) ∧ TxOk X.prog X.w D m ∧ Ris D.2.2.place.toList ∧ D.2.2.led = (!X.w.params.followText "set-order") := ⟨D, g1, g2, g3, g4⟩
  have hn : H s.heap.objs.size = none := I.hok.fresh (Nat.le_refl _)
  exact ⟨.ref _, upd H s.heap.objs.size (SetTx X.prog X.w s.heap.objs.size m), I.laid k (Nat.le_refl _) ⟨w1, ⟨_, g1⟩, fun _ _ ⟨D, e, r⟩ st => ⟨D, st _ e, r⟩⟩, rfl, q _ m hn nd mem le⟩
end
end SetQ

namespace Lb
open PySem
theorem lt_list : ∀ (a b : List Nat), a < b ∨ a = b ∨ b < a
  | [], [] => .inr (.inl rfl)
  | [], _ :: _ => .inl (by simp)
  | _ :: _, [] => .inr (.inr (by simp))
  | c :: a, d :: b => by
    rcases Nat.lt_trichotomy c d with q | q | q
    · exact .inl (List.cons_lt_cons_iff.mpr (.inl q))
    · subst q
      rcases lt_list a b with k | k | k
      · exact .inl (List.cons_lt_cons_iff.mpr (.inr ⟨rfl, k⟩))
      · exact .inr (.inl (by rw [k]))
      · exact .inr (.inr (List.cons_lt_cons_iff.mpr (.inr ⟨rfl, k⟩)))
    · exact .inr (.inr (List.cons_lt_cons_iff.mpr (.inl q)))
theorem lt_or {x y : Str} : x.cps.toList < y.cps.toList ∨ x = y ∨ y.cps.toList < x.cps.toList := by
  rcases lt_list x.cps.toList y.cps.toList with h | h | h
  · exact .inl h
  · exact .inr (.inl (Str.ext' (Array.toList_inj.mp h)))
  · exact .inr (.inr h)
end Lb
namespace SetQ
theorem both {α : Type} {a b : α} : ∀ {l : List α}, l.Nodup → [a, b].Sublist l → [b, a].Sublist l → False
  | [], _, h, _ => by cases h
  | c :: l, nd, h, k => by
    obtain ⟨n1, n2⟩ := List.nodup_cons.mp nd
    cases h with
    | cons _ h =>
      cases k with
      | cons _ k => exact both n2 h k
      | cons_cons _ k => exact n1 (h.subset (List.mem_cons_of_mem _ List.mem_cons_self))
    | cons_cons _ h =>
      cases k with
      | cons _ k => exact n1 (k.subset (List.mem_cons_of_mem _ List.mem_cons_self))
      | cons_cons _ k => exact n1 (h.subset List.mem_cons_self)
end SetQ
namespace SetQ
open PySem PySem.Spec PyProof.Rows L2
/-! ### sorted(xs, key=len), xs a list of texts -/
def lenLe (x y : Str) : Bool := decide (x.length ≤ y.length)
def lenSort (xs : List Str) : List Str := xs.mergeSort lenLe
/-- the word order -/
def Bef (x y : Str) : Prop := x.length < y.length ∨ (x.length = y.length ∧ x.cps.toList < y.cps.toList)
theorem lenSort_perm (xs : List Str) : (lenSort xs).Perm xs := List.mergeSort_perm xs lenLe
theorem sortedS_pair : ∀ {ws : List Str}, sortedS ws = true → ws.Pairwise fun x y => ¬ y.cps.toList < x.cps.toList
  | [], _ => .nil
  | [x], _ => List.pairwise_singleton ..
  | x :: y :: r, h => by
    have h' : (!ltCps y.cps.toList x.cps.toList && risingS y r) = true := h
    rw [Bool.and_eq_true] at h'
    have ih := sortedS_pair (ws := y :: r) h'.2
    have yx : ¬ y.cps.toList < x.cps.toList := by
      have e := h'.1
      rw [ltCps_eq] at e
      intro z
      rw [decide_eq_true z] at e
      cases e
    refine List.pairwise_cons.mpr ⟨fun z hz => ?_, ih⟩
    rcases List.mem_cons.mp hz with rfl | hz
    · exact yx
    · have yz := (List.pairwise_cons.mp ih).1 z hz
      exact fun q => yx (List.lt_of_le_of_lt (List.not_lt.mp yz) q)
theorem lenSort_bef {ws : List Str} (s : sortedS ws = true) (nd : ws.Nodup) : (lenSort ws).Pairwise Bef := by
  have tr : ∀ a b c : Str, lenLe a b = true → lenLe b c = true → lenLe a c = true := fun a b c h1 h2 => decide_eq_true (Nat.le_trans (of_decide_eq_true h1) (of_decide_eq_true h2))
  have tot : ∀ a b : Str, (lenLe a b || lenLe b a) = true := fun a b => by
    rw [Bool.or_eq_true]
    rcases Nat.le_total a.length b.length with h | h
    · exact .inl (decide_eq_true h)
    · exact .inr (decide_eq_true h)
  have by_len := List.pairwise_mergeSort (le := lenLe) tr tot ws
  have nd' : (lenSort ws).Nodup := (lenSort_perm ws).nodup_iff.mpr nd
  have srt := sortedS_pair s
  refine List.pairwise_iff_forall_sublist.mpr fun {a b} hab => ?_
  have le : a.length ≤ b.length := of_decide_eq_true (List.pairwise_iff_forall_sublist.mp by_len hab)
  rcases Nat.lt_or_ge a.length b.length with h | h
  · exact .inl h
  refine .inr ⟨Nat.le_antisymm le h, ?_⟩
  have ne : a ≠ b := List.pairwise_iff_forall_sublist.mp nd' hab
  have ma : a ∈ ws := (lenSort_perm ws).mem_iff.mp (hab.subset List.mem_cons_self)
  have mb : b ∈ ws := (lenSort_perm ws).mem_iff.mp (hab.subset (List.mem_cons_of_mem _ List.mem_cons_self))
  have ln : ∀ {x y : Str}, ¬ y.cps.toList < x.cps.toList → x ≠ y → x.cps.toList < y.cps.toList := fun {x y} h ne => by
    rcases Lb.lt_or (x := x) (y := y) with q | q | q
    · exact q
    · exact absurd q ne
    · exact absurd q h
  have two : ∀ (l : List Str), a ∈ l → b ∈ l → [a, b].Sublist l ∨ [b, a].Sublist l := by
    intro l
    induction l with
    | nil => intro h _; cases h
    | cons c l ih =>
      intro h1 h2
      rcases List.mem_cons.mp h1 with e1 | h1
      · rcases List.mem_cons.mp h2 with e2 | h2
        · exact absurd (e1.trans e2.symm) ne
        · rw [← e1]
          exact .inl (List.Sublist.cons_cons a (List.singleton_sublist.mpr h2))
      · rcases List.mem_cons.mp h2 with e2 | h2
        · rw [← e2]
          exact .inr (List.Sublist.cons_cons b (List.singleton_sublist.mpr h1))
        · exact (ih h1 h2).imp (·.cons _) (·.cons _)
  rcases two ws ma mb with q | q
  · exact ln (List.pairwise_iff_forall_sublist.mp srt q) ne
  · have back : [b, a].Sublist (lenSort ws) := List.pair_sublist_mergeSort tr tot (decide_eq_true h) q
    -- both ways: then one of the two stands twice
    exact (both nd' hab back).elim
def rSortLen (K : PySem.W.Frag) : List V → Hp → VK → Prop := fun vs H Q => ∃ (a : Addr) (xs : List Str), vs = [V.ref a] ∧ SqL K H a (xs.map V.str) ∧ (∀ x ∈ xs, x.length ≤ sizeLine) ∧ ∀ p, H p = none → Q (.ref p) (upd H p (.lst ((lenSort xs).map V.str)))
theorem each_of_strs : ∀ {us : List Value} {xs : List Str}, StrsAre us xs → PySem.W.EachIs (fun v x => ∃ t, v = Value.str x t) us xs
  | _, _, .nil => .nil
  | _, _, .cons x t h => .cons ⟨t, rfl⟩ (each_of_strs h)
theorem vals_of_each : ∀ {us : List Value} {xs : List Str}, PySem.W.EachIs (fun v x => ∃ t, v = Value.str x t) us xs → Vals (xs.map V.str) us
  | _, _, .nil => .nil
  | _, _, .cons h r => .cons h (vals_of_each r)
section
variable {X : Cx}
theorem run_sortLen {pins : List (Addr × Obj)} {s : Shared} {σ : L2.St} {H : Hp} {a : Addr} {xs : List Str} {Q : VK} (hu : X.A.units + 64 < cLine) (I : Inv X pins σ H s) (hs : SqL X.K H a (xs.map V.str)) (hx : ∀ x ∈ xs, x.length ≤ sizeLine)
    (q : ∀ p, H p = none → Q (.ref p) (upd H p (.lst ((lenSort xs).map V.str)))) : wpAny (model X.prog X.w) X.A (call (.builtin "sorted") [.ref a] [(Str.ofString "key", .builtin "len")]) (EP X pins σ Q) X.xe s := by
  obtain ⟨its, rv, hl, hz⟩ := I.list hs
  have hz' : xs.length ≤ sizeLine := by
    rw [List.length_map] at hz
    exact hz
  refine PySem.W.sorted_key_data (b := false) (R := fun v x => ∃ t, v = Value.str x t) (bs := xs) (fun x : Str => PyData.int ((x.length : Nat) : Int)) hl.isList (each_of_strs rv.strs) (PySem.W.AllAlike.of fun _ _ => by simp [PySem.W.alike]) (.inr fun d hd => ?_) hz' (fun x _ => ?_) (ksk_s1 _ _) (fun _ => ksk_l1 _ _) (fun _ => ksk_t4 _ _)
    (fun v x ⟨t, e⟩ m h tk _ => ?_) fun out c h' tk keep fresh at_ len each => ?_
  · obtain ⟨x, _, rfl⟩ := List.mem_map.mp hd
    exact ⟨fun z => (by cases z), fun ys z => (by cases z)⟩
  · show X.A.units + 2 + PyData.depth (.int _) < cLine
    have : PyData.depth (.int ((x.length : Nat) : Int)) = 0 := by simp [PyData.depth]
    omega
  · subst e
    have := hx x m
    have b := line63
    exact len_str (by omega) ⟨h, _, rfl, fun _ _ e => e, .int _ _⟩
  · rw [PySem.W.dataLe_int] at each
    have e : xs.mergeSort (fun a b : Str => decide (((a.length : Nat) : Int) ≤ ((b.length : Nat) : Int))) = lenSort xs := by
      unfold lenSort
      congr 1
      funext a b
      unfold lenLe
      simp only [Int.ofNat_le]
    rw [e] at each
    refine ⟨.ref (s.heap.objs.size + 1), upd H (s.heap.objs.size + 1) (.lst ((lenSort xs).map V.str)), I.laid keep (Nat.le_succ _) ⟨?_, out, c, vals_of_each each, at_⟩, rfl, q _ (I.hok.fresh (Nat.le_succ _))⟩
    rw [List.length_map, (lenSort_perm xs).length_eq]
    exact hz'
def tSortLen (K : PySem.W.Frag) (t : TA) : TE := fun σ H Q => t σ H fun vs H1 => rSortLen K vs H1 Q
theorem pe_sortLen {e : Expr} {t : TA} {p p2 kp pos : Pos} (hu : X.A.units + 64 < cLine) (hg : Gl X "sorted") (hm : X.mg "sorted" = none) (hgl : Gl X "len") (hml : X.mg "len" = none) (he : PA X [e] t)
    (hst : backTo pos (starEach [e] X.env) = (false, eval e X.env) :: backTo pos (starEach [] X.env) := by rfl) (hpl : (backTo pos (starEach [e] X.env)).any (·.1) = false := by rfl) :
    PE X (.Call (.Name (Str.ofString "sorted") p) [e] [⟨some (Str.ofString "key"), .Name (Str.ofString "len") p2, kp⟩] pos) (tSortLen X.K t) := by
  refine ⟨fun pins s σ H Q I h => ?_⟩
  refine wpAny_Call_Name_kw (ld_blt I hg hm (show bootBuiltins (Str.ofString "sorted") = some (.builtin "sorted") by decide +kernel) ?_ (by decide) (by decide))
  refine PyProof.Rows.callWith_kw (thn (he.run pos pins s σ H _ I h) fun us s1 ⟨vs, H1, I1, r1, q1⟩ => ?_) hst hpl (by rfl) (by rfl)
  show wpAny _ _ (evalAll ((do let v ← eval (.Name (Str.ofString "len") p2) X.env; standAt pos; pure v) :: [])) _ _ s1
  refine wpAny_evalAll_cons (wpAny_bind (ld_blt I1 hgl hml PySem.boot_len (wpAny_bind (wpAny_standAt (wpAny_pure (wpAny_evalAll_nil ?_)))) (by decide) (by decide)))
  obtain ⟨a, xs, rfl, hs, hx, q⟩ := q1
  obtain rfl := Vals.ref1 r1
  exact run_sortLen hu I1 hs hx q
end
end SetQ

namespace MinQ
open PySem PySem.Spec PyProof.Rows L2
/-! ### min(xs, key=f, default=None), f(x) the pair (len(x), x), xs a list of texts -/
def kLt (x y : Str) : Bool := if x.length = y.length then decide (x.cps.toList < y.cps.toList) else decide (x.length < y.length)
def btS (xs : List Str) (i j : Nat) : Bool := match xs[i]?, xs[j]? with
  | some x, some y => kLt x y
  | _, _ => false
theorem btS_at {xs : List Str} {i j : Nat} {x y : Str} (h : xs[i]? = some x) (k : xs[j]? = some y) : btS xs i j = kLt x y := by
  unfold btS
  rw [h, k]
/-- what is wanted of the key -/
def spKey : Sp := fun vs _ Q _ => ∃ x : Str, vs = [.str x] ∧ x.length ≤ 1000000 ∧ ∀ (p : Addr) (H' : Hp), H' p = some (.tup [.int ((x.length : Nat) : Int), .str x]) → Q (.ref p) H'
/-- all but the frames' own slots stands -/
structure KeepF (fs : List Addr) (s0 s : Shared) : Prop where
  keep : ∀ b o, s0.heap.get? b = some o → b ∉ fs → s.heap.get? b = some o
  slot : ∀ b o, s0.heap.get? b = some o → b ∈ fs → ∃ sl, s.heap.get? b = some { o with slots := sl }
  os : s.os = s0.os
  bare : AllBare s.gens
theorem KeepF.trans {fs : List Addr} {s0 s1 s2 : Shared} (h : KeepF fs s0 s1) (k : KeepF fs s1 s2) : KeepF fs s0 s2 where
  keep := fun b o e n => k.keep b o (h.keep b o e n) n
  slot := fun b o e m => by
    obtain ⟨sl, q⟩ := h.slot b o e m
    obtain ⟨sl2, q2⟩ := k.slot b _ q m
    exact ⟨sl2, q2⟩
  os := k.os.trans h.os
  bare := k.bare
theorem KeepF.of_un {fs : List Addr} {H' : Hp} {s s' : Shared} (u : Un fs [] (fun _ => none) H' s.heap s'.heap) (o : s'.os = s.os) (b : AllBare s'.gens) : KeepF fs s s' :=
  ⟨fun b o e n => u.keep b o e rfl n List.not_mem_nil, fun b o e m => u.slot b o e rfl m List.not_mem_nil, o, b⟩
section
variable {X : Cx} {pins : List (Addr × Obj)} {s s' s0 : Shared} {σ : L2.St} {H : Hp}
theorem KeepF.inv (I : Inv X pins σ H s) (k : KeepF (frs X.stack) s s') : Inv X pins σ H s' := by
  refine I.call' (ch := []) k.os ⟨fun b o e n hb _ => k.keep b o e hb, fun b o e n hb _ => k.slot b o e hb, fun b o e n _ => n, fun b o e _ => ?_, fun b xs e => e, fun b o u e => e, fun b ps e => ⟨#[], by rw [Array.append_empty]; exact e⟩⟩ (fun a o e => ?_) k.bare (fun b z => absurd z List.not_mem_nil)
  · by_cases hb : b ∈ frs X.stack
    · obtain ⟨sl, q⟩ := k.slot b o e hb
      exact ⟨_, q⟩
    · exact ⟨_, k.keep b o e hb⟩
  · refine (I.hok a o e).stay (fun b u hb q => k.keep b u q fun z => ?_) (fun _ q => q) fun _ _ q => q
    have free := I.stkFree b z
    rcases hb with hb | hb
    · rw [hb, e] at free
      cases free
    · rw [hb] at free
      cases free
theorem KeepF.env {A : Around} (I : Inv X pins σ H s0) (k : KeepF (frs X.stack) s0 s) (hsz : s0.heap.objs.size ≤ s.heap.objs.size) (hf : A.frames = some X.stack) : Env0 X.prog X.w X.K X.mg X.base A X.stack s (fun _ => none) where
  frames := hf
  mod := I.ok.mod
  bs := fun b o e => ⟨k.keep b o (I.bk b o e) fun z => (by
    have := (I.stack.mem z).1
    rw [e] at this
    cases this), rfl⟩
  bsz := Nat.le_trans I.ok.bsz (Nat.le_trans I.sz hsz)
  funs := I.stack.of_keeps fun b o e _ => by
    by_cases hb : b ∈ frs X.stack
    · obtain ⟨sl, q⟩ := k.slot b o e hb
      exact ⟨_, q, rfl⟩
    · exact ⟨_, k.keep b o e hb, rfl⟩
  frf := fun _ _ => rfl
  hok := fun a o e => nomatch e
  bare := k.bare
/-- the key's pair at t -/
def KeyAt (h : Heap) (t : Addr) (x : Str) : Prop := ∃ u v : Tok, IsTup h t #[.int ((x.length : Nat) : Int) u, .str x v]
def VKey (fs : List Addr) (n : Nat) (xs : List Str) (i : Nat) (ki : Value) (s : Shared) : Prop := ∃ (t : Addr) (x : Str), ki = .ref t ∧ xs[i]? = some x ∧ t ∉ [n + 1, n] ∧ t ∉ fs ∧ KeyAt s.heap t x
theorem key_run {k : Nat} {f : Addr} {fd : FuncData} {its : Array Value} {xs : List Str} {ax : Addr} (F : FnOk X.prog X.w X.K X.mg X.base CX0 k f fd ["word"] spKey) (hb : Binds X.K fd ["word"] []) (hr : Room k X.A.in1) (hu : X.A.in1.units < cLine)
    (I : Inv X pins σ H s0) (hi : StrsAre its.toList xs) (hx : ∀ x ∈ xs, x.length ≤ 1000000) (hax : ax ∉ frs X.stack) :
    KeyRun X.prog X.w X.A.in1 (.ref f) .Lt (s0.heap.objs.size + 1) [s0.heap.objs.size] (fun a b => b = a) its.size (fun i v => its[i]? = some v) (fun i s => s.heap.IsListIter s0.heap.objs.size ax i ∧ s.heap.IsList ax its) (KeepF (frs X.stack) s0)
      (VKey (frs X.stack) s0.heap.objs.size xs) (btS xs) := by
  have fsOld : ∀ b ∈ frs X.stack, b < s0.heap.objs.size := fun b hb => by
    obtain ⟨_, o, ho, _⟩ := I.stack.mem hb
    exact Heap.lt_size ho
  refine ⟨fun s s' J m => ⟨fun b o e n => ?_, fun b o e hb => ?_, m.os.trans J.os, ?_⟩, fun i ki s s' ⟨t, x, e, ex, n1, n2, u, v, ob, ho, r⟩ m => ⟨t, x, e, ex, n1, n2, u, v, ob, m.heap t ob n1 ho, r⟩, fun i v s o Q E hi' hP J hst hS q => ?_, fun i j ki kj s Q E J hVi hVj q => ?_⟩
  · have lt := Heap.lt_size e
    exact m.heap b o (by simp only [List.mem_cons, List.not_mem_nil, or_false, not_or]; exact ⟨Nat.ne_of_lt (Nat.lt_succ_of_lt lt), Nat.ne_of_lt lt⟩) (J.keep b o e n)
  · have lt := Heap.lt_size e
    obtain ⟨sl, q⟩ := J.slot b o e hb
    exact ⟨sl, m.heap b _ (by simp only [List.mem_cons, List.not_mem_nil, or_false, not_or]; exact ⟨Nat.ne_of_lt (Nat.lt_succ_of_lt lt), Nat.ne_of_lt lt⟩) q⟩
  · have eg : s'.gens = s.gens := m.gens
    rw [eg]
    exact J.bare
  · obtain ⟨x, t0, ex, ev⟩ := SetQ.strs_at hi i v (by rw [Array.getElem?_toList]; exact hP)
    subst ev
    have hsz : s0.heap.objs.size ≤ s.heap.objs.size := Nat.le_trans (Nat.le_succ _) (Nat.le_of_lt (Heap.lt_size hS))
    have lx := hx x (List.mem_of_getElem? ex)
    have r2 : Vals [V.str x] [.str x t0] := .cons ⟨t0, rfl⟩ .nil
    have en : Env0 X.prog X.w X.K X.mg X.base X.A.in1 X.stack s (fun _ => none) := J.env (A := X.A.in1) I hsz (by exact I.ok.frames)
    have kin : X.K.In s.heap := I.ok.mod.kin.keeps fun b o e => (en.bs b o e).1
    refine wpAny_call (codeAny_mono (F.run X.A.in1 X.stack s (fun _ => none) ⟨[.str x t0], []⟩ [.str x t0] [V.str x] (fun v H' => ∃ p, v = .ref p ∧ H' p = some (.tup [.int ((x.length : Nat) : Int), .str x])) (fun _ _ _ => False) hr en (hb s [.str x t0] kin rfl) r2 ⟨x, rfl, lx, fun p H' e => ⟨p, rfl, e⟩⟩) fun r s' hq => ?_)
    cases r with
    | error e => exact (hq : False).elim
    | ok fl =>
      cases fl with
      | ret u =>
        obtain ⟨v, H', os, bare, un, hok, rv, p, rfl, hp⟩ := (hq : CE X.stack X.prog X.w _ s _ u s')
        obtain rfl : u = .ref p := rv
        have kf := KeepF.of_un un os bare
        have fresh : ∀ o, s.heap.get? p ≠ some o := fun o e => by
          have := un.free p o e rfl List.not_mem_nil
          rw [hp] at this
          cases this
        have pS : p ≠ s0.heap.objs.size + 1 := fun e => fresh o (by rw [e]; exact hS)
        have pI : p ≠ s0.heap.objs.size := fun e => by
          obtain ⟨ob, ho, _⟩ := hst.1
          exact fresh ob (by rw [e]; exact ho)
        have pF : p ∉ frs X.stack := fun z => by
          obtain ⟨_, ob, ho, _⟩ := en.funs.mem z
          exact fresh ob ho
        have nS : s0.heap.objs.size + 1 ∉ frs X.stack := fun z => absurd (fsOld _ z) (Nat.not_lt.mpr (Nat.le_succ _))
        have nI : s0.heap.objs.size ∉ frs X.stack := fun z => absurd (fsOld _ z) (Nat.lt_irrefl _)
        refine q (.ref p) s' (J.trans kf) ⟨hst.1.at fun o e => kf.keep _ o e nI, hst.2.at fun o e => kf.keep _ o e hax⟩ (kf.keep _ o hS nS) ⟨p, x, rfl, ex, ?_, pF, ?_⟩ fun j kj ⟨t, y, e, ey, n1, n2, a1, a2, ob, ho, rr⟩ => ⟨t, y, e, ey, n1, n2, a1, a2, ob, kf.keep t ob ho n2, rr⟩
        · simp only [List.mem_cons, List.not_mem_nil, or_false, not_or]
          exact ⟨pS, pI⟩
        · obtain ⟨_, us, rr, it⟩ := hok p _ hp
          obtain ⟨x1, x2, rfl, ⟨t1, rfl⟩, ⟨t2, rfl⟩⟩ := vals2 rr
          exact ⟨t1, t2, it⟩
      | next => exact False.elim hq
      | brk => exact False.elim hq
      | cont => exact False.elim hq
  · obtain ⟨t, x, rfl, ex, _, _, t1, t2, p1⟩ := hVi
    obtain ⟨t', y, rfl, ey, _, _, t3, t4, p2⟩ := hVj
    rw [btS_at ex ey] at q
    have R := Ob.RcOp.tuples_lt (A := X.A.in1) (s := s) (e := fun j => if j = 0 then decide (x.length = y.length) else decide (x = y)) (r := fun j => if j = 0 then decide (x.length < y.length) else decide (x.cps.toList < y.cps.toList)) p1 p2 hu (fun j h1 h2 => by
      match j, h1, h2 with
      | 0, _, _ =>
        have z : (((x.length : Nat) : Int) == ((y.length : Nat) : Int)) = decide (x.length = y.length) := by
          by_cases q : x.length = y.length
          · rw [decide_eq_true q, q]
            exact beq_iff_eq.mpr rfl
          · rw [decide_eq_false q]
            exact beq_eq_false_iff_ne.mpr fun z => q (Int.ofNat_inj.mp z)
        show SeqAt.EqAt _ _ (.int _ t1) (.int _ t3) (decide (x.length = y.length))
        rw [← z]
        exact SeqAt.EqAt.int_int _ _ _ _
      | 1, _, _ =>
        have z : (x == y) = decide (x = y) := by
          by_cases e : x = y
          · rw [decide_eq_true e]; exact beq_iff_eq.mpr e
          · rw [decide_eq_false e]; exact beq_eq_false_iff_ne.mpr e
        show SeqAt.EqAt _ _ (.str x t2) (.str y t4) (decide (x = y))
        rw [← z]
        exact SeqAt.EqAt.str_str _ _ _ _) (fun j h1 h2 _ => by
      match j, h1, h2 with
      | 0, _, _ =>
        have z : decide (x.length < y.length) = decide (((x.length : Nat) : Int) < ((y.length : Nat) : Int)) := by simp only [Int.ofNat_lt]
        show Ob.RcOp .Lt _ _ (.int _ t1) (.int _ t3) (decide (x.length < y.length))
        rw [z]
        exact Ob.RcOp.lt_int _ _ _ _
      | 1, _, _ => exact fun _ _ _ _ h => PyProof.Rows.lt_str h)
    have e : Ob.lexAt (fun j => if j = 0 then decide (x.length = y.length) else decide (x = y)) (fun j => if j = 0 then decide (x.length < y.length) else decide (x.cps.toList < y.cps.toList)) (decide (2 < 2)) 0 2 = kLt x y := by
      show (if decide (x.length = y.length) = true then (if decide (x = y) = true then decide (2 < 2) else decide (x.cps.toList < y.cps.toList)) else decide (x.length < y.length)) = _
      unfold kLt
      by_cases e1 : x.length = y.length
      · by_cases e2 : x = y
        · subst e2
          simp [List.lt_irrefl]
        · simp [e1, e2]
      · simp [e1]
    refine R _ _ _ _ ?_
    have e' := e
    rw [← e'] at q
    exact q
end
end MinQ

namespace MinQ
open PySem PySem.Spec PyProof.Rows L2
theorem kLt_true {x y : Str} : kLt x y = true ↔ x.length < y.length ∨ (x.length = y.length ∧ x.cps.toList < y.cps.toList) := by
  unfold kLt
  by_cases h : x.length = y.length
  · rw [if_pos h, decide_eq_true_iff]
    exact ⟨fun z => .inr ⟨h, z⟩, fun z => z.elim (fun q => absurd q (by omega)) (·.2)⟩
  · rw [if_neg h, decide_eq_true_iff]
    exact ⟨.inl, fun z => z.elim id fun q => absurd q.1 h⟩
theorem kLt_self (x : Str) : kLt x x = false := by
  cases h : kLt x x with
  | false => rfl
  | true =>
    rcases kLt_true.mp h with q | q
    · omega
    · exact absurd q.2 (List.lt_irrefl _)
theorem kLt_trans {x y z : Str} (h : kLt x y = true) (k : kLt y z = true) : kLt x z = true := by
  rw [kLt_true] at *
  rcases h with h | h <;> rcases k with k | k
  · exact .inl (by omega)
  · exact .inl (by omega)
  · exact .inl (by omega)
  · exact .inr ⟨by omega, List.lt_trans h.2 k.2⟩
theorem best_ok {xs : List Str} : ∀ j, j < xs.length → argBest (btS xs) j ≤ j ∧ ∀ i, i ≤ j → ∀ x y, xs[i]? = some x → xs[argBest (btS xs) j]? = some y → kLt x y = false
  | 0, _ => ⟨Nat.le_refl _, fun i hi x y hx hy => by
    have : i = 0 := by omega
    subst this
    have e : xs[0]? = some y := hy
    rw [hx] at e
    cases e
    exact kLt_self x⟩
  | j + 1, hj => by
    obtain ⟨h1, h2⟩ := best_ok (xs := xs) j (by omega)
    have lb : argBest (btS xs) j < xs.length := by omega
    have eb := List.getElem?_eq_getElem lb
    have ez := List.getElem?_eq_getElem hj
    show (if btS xs (j + 1) (argBest (btS xs) j) = true then j + 1 else argBest (btS xs) j) ≤ j + 1 ∧ ∀ i, i ≤ j + 1 → ∀ x y, xs[i]? = some x → xs[if btS xs (j + 1) (argBest (btS xs) j) = true then j + 1 else argBest (btS xs) j]? = some y → kLt x y = false
    cases hb : btS xs (j + 1) (argBest (btS xs) j) with
    | true =>
      rw [if_pos rfl]
      rw [btS_at ez eb] at hb
      refine ⟨Nat.le_refl _, fun i hi x y hx hy => ?_⟩
      rw [ez] at hy
      cases hy
      by_cases g : i = j + 1
      · subst g
        rw [ez] at hx
        cases hx
        exact kLt_self _
      · have := h2 i (by omega) x _ hx eb
        cases q : kLt x xs[j + 1] with
        | false => rfl
        | true =>
          rw [kLt_trans q hb] at this
          cases this
    | false =>
      rw [if_neg Bool.false_ne_true]
      rw [btS_at ez eb] at hb
      refine ⟨by omega, fun i hi x y hx hy => ?_⟩
      by_cases g : i = j + 1
      · subst g
        rw [ez] at hx
        rw [eb] at hy
        cases hx
        cases hy
        exact hb
      · exact h2 i (by omega) x y hx hy
theorem room_in1 {k : Nat} {A : Around} (r : Room (k + 1) A) : Room k A.in1 :=
  ⟨r.hd, by have := r.dp; show A.depth + 3 * k + 5 < _; omega, by have := r.un; show A.units + 1 + 16 * k + 200 < _; omega⟩
section
variable {X : Cx}
def rMinKey (K : PySem.W.Frag) (f : Addr) : List V → List V → Hp → VK → Prop := fun vs zs H Q => ∃ (a : Addr) (xs : List Str), vs = [V.ref a] ∧ zs = [.ref f, .non] ∧ SqL K H a (xs.map V.str) ∧ (∀ x ∈ xs, x.length ≤ 1000000) ∧
  (xs = [] → Q .non H) ∧ ∀ x ∈ xs, (∀ y ∈ xs, kLt y x = false) → Q (.str x) H
theorem cr_minKey {k : Nat} {f : Addr} {fd : FuncData} (F : FnOk X.prog X.w X.K X.mg X.base CX0 k f fd ["word"] spKey) (hb : Binds X.K fd ["word"] []) (hr : Room (k + 1) X.A) : CallRK X (.builtin "min") [Str.ofString "key", Str.ofString "default"] (rMinKey X.K f) := by
  intro pins s σ H vs zs us ws Q I r rz h
  obtain ⟨a, xs, rfl, rfl, hs, hx, q0, q1⟩ := h
  obtain rfl := Vals.ref1 r
  obtain ⟨w1, w2, rfl, e1, e2⟩ := vals2 rz
  obtain rfl : w1 = .ref f := e1
  obtain rfl : w2 = Value.none := e2
  obtain ⟨its, rv, hl, _⟩ := I.list hs
  have hi : StrsAre its.toArray.toList xs := by
    rw [List.toList_toArray]
    exact rv.strs
  have hlen : its.toArray.size = xs.length := by
    rw [← Array.length_toList]
    exact hi.length
  have hax : a ∉ frs X.stack := fun z => by
    rcases hs with e | ⟨o, _, _, hk, _⟩
    · have free := I.stkFree a z
      rcases e with e | ⟨o, e⟩ <;> · rw [e] at free; cases free
    · have n := (I.stack.mem z).1
      first
        | (rw [I.mod.kin a o hk] at n; cases n)
        | (have := I.mod.kin _ _ hk; rw [this] at n; cases n)
  have hr1 := room_in1 hr
  have hu : X.A.in1.units < cLine := by
    have := hr1.un
    omega
  refine call_min_walkKD ?_
  have hh : X.A.in1.in1.handled = none := hr.hd
  have hla : a < s.heap.objs.size := by
    obtain ⟨o, _, e, _⟩ := hl
    exact Heap.lt_size e
  refine wpAny_pyIter_list hl.isList ?_
  have esz : (s.heap.push { cls := .type "list_iterator", data := .fields #[.ref a, .int 0 0] }).objs.size = s.heap.objs.size + 1 := Heap.size_push ..
  refine ⟨s.heap.objs.size, [s.heap.objs.size, a], [s.heap.objs.size], _, its.toArray.size, _, _, KeepF (frs X.stack) s, VKey (frs X.stack) s.heap.objs.size xs, btS xs, rfl, (Walks.list (by exact hr.hd) s.heap.objs.size a (Nat.ne_of_lt hla) its.toArray).toS, ⟨⟨_, Heap.get?_push_size _ rfl, rfl, rfl⟩, hl.isList.push _⟩, ?_, ?_, ?_, ?_, ?_⟩
  rotate_left
  · show KeyRun _ _ _ _ _ (s.heap.push { cls := .type "list_iterator", data := .fields #[.ref a, .int 0 0] }).objs.size _ _ _ _ _ _ _ _
    rw [esz]
    exact key_run F hb hr1 hu I hi hx hax
  · exact ⟨fun b o e _ => Heap.get?_push_of_some _ e, fun b o e _ => ⟨o.slots, Heap.get?_push_of_some _ e⟩, rfl, I.bare⟩
  · intro hn s' J
    refine ⟨.non, H, J.inv I, rfl, q0 (List.length_eq_zero_iff.mp (by rw [← hlen]; exact hn))⟩
  · intro hn v s' hP J
    have hn' : its.toArray.size - 1 < xs.length := by omega
    obtain ⟨b1, b2⟩ := best_ok (xs := xs) _ hn'
    have hP' : its.toArray[argBest (btS xs) (its.toArray.size - 1)]? = some v := hP
    obtain ⟨x, t, ex, rfl⟩ := SetQ.strs_at hi _ v (by rw [Array.getElem?_toList]; exact hP')
    refine ⟨.str x, H, J.inv I, ⟨t, rfl⟩, q1 x (List.mem_of_getElem? ex) fun y hy => ?_⟩
    obtain ⟨i, hi', ey⟩ := List.getElem_of_mem hy
    exact b2 i (by omega) y x (by rw [List.getElem?_eq_getElem hi', ey]) ex
  · intro b hb
    show b < (s.heap.push { cls := .type "list_iterator", data := .fields #[.ref a, .int 0 0] }).objs.size
    rw [esz]
    rcases List.mem_cons.mp hb with e | hb
    · rw [e]
      exact Nat.lt_succ_self _
    · rw [List.mem_singleton.mp hb]
      exact Nat.lt_succ_of_lt hla
end
end MinQ

namespace Lb
open PySem PySem.Spec PyProof.Rows L2
/-! ### x[::-1] of a text -/
def revS (z : Str) : Str := ⟨(cs z).reverse.toArray⟩
theorem cs_revS (z : Str) : cs (revS z) = (cs z).reverse := rfl
theorem rev_step (z : Str) (u : Tok) : Txt.sliceBy z none none (-1, u) = revS z := by
  refine cs_ext ?_
  show (Txt.sliceBy z none none (-1, u)).cps.toList = _
  rw [PyProof.Rows.step_rev_list, cs_revS]
  refine List.ext_getElem ?_ fun i h1 h2 => ?_
  · rw [List.length_map, List.length_range, List.length_reverse, cs_len]
  · have hi : i < z.length := by
      rw [List.length_map, List.length_range] at h1
      exact h1
    rw [List.getElem_map, List.getElem_range, List.getElem_reverse]
    have hl : (cs z).length = z.length := cs_len z
    have hj : z.length - 1 - i < z.cps.size := by
      show _ < z.length
      omega
    show z.cps.getD (z.length - 1 - i) 0 = _
    rw [Array.getD, dif_pos hj]
    show z.cps[z.length - 1 - i] = z.cps.toList[(cs z).length - 1 - i]
    simp only [hl, Array.getElem_toList]
def tRevT (te : TE) : TE := fun σ H Q => te σ H fun x H1 => ∃ z : Str, x = .str z ∧ z.length ≤ sizeLine ∧ Q (.str (revS z)) H1
theorem pe_revT {X : Cx} {e : Expr} {te : TE} {k : Nat} {p1 p2 p3 pos : Pos} (he : PE X e te) : PE X (.Subscript e (.Slice none none (some (.UnaryOp .USub (.Constant (.int 1) k p1) p2)) p3) pos) (tRevT te) := by
  refine ⟨fun pins s σ H Q I h => ?_⟩
  refine Subscript_ (thn (he.run pins s σ H _ I h) fun v s1 ⟨x, H1, I1, r1, q1⟩ => ?_)
  obtain ⟨z, ex, hz, q⟩ := q1
  subst ex
  obtain ⟨t, rfl⟩ := r1
  have hst : PO X (some (.UnaryOp .USub (.Constant (.int 1) k p1) p2)) (tPart (tUn (rU fun i => .int (-i)) (tC (.int 1)))) := po_some (pe_un un_neg pe_int)
  refine wpAny_Slice (thn (po_none.run pins s1 σ H1 (fun o H2 => o = none ∧ H2 = H1) I1 ⟨rfl, rfl⟩) fun vl s2 ⟨l, H2, I2, pl, el, e2⟩ => ?_)
  subst el e2
  refine thn (po_none.run pins s2 σ H2 (fun o H3 => o = none ∧ H3 = H2) I2 ⟨rfl, rfl⟩) fun vu s3 ⟨u, H3, I3, pu, eu, e3⟩ => ?_
  subst eu e3
  refine thn (hst.run pins s3 σ H3 (fun o H4 => o = some (-1) ∧ H4 = H3) I3 ⟨1, rfl, -1, rfl, rfl, rfl⟩) fun vs s4 ⟨o, H4, I4, ps, eo, e4⟩ => ?_
  subst eo e4
  have I5 : Inv X pins σ H4 { s4 with heap := s4.heap.push { cls := .type "slice", data := .fields #[vl, vu, vs] } } := I4.kept (t' := s4.toks) fun b ob q => Heap.get?_push_of_some _ q
  cases pl
  cases pu
  cases ps with
  | int _ uk =>
  show wpAny (model X.prog X.w) X.A (subscriptTail e (.Slice none none (some (.UnaryOp .USub (.Constant (.int 1) k p1) p2)) p3) (.str z t) (.ref s4.heap.objs.size)) (EP X pins σ Q) X.xe { s4 with heap := s4.heap.push { cls := .type "slice", data := .fields #[.none, .none, .int (-1) uk] } }
  refine tail_any (ops := [.ref s4.heap.objs.size, .str z t]) (typeIs_str _ _ _) F.slot_str_getitem.lookup ?_ (by with_unfolding_all rfl)
  refine wpAny_getItem_str_slice (l := none) (u := none) (st := some (-1, uk)) ⟨_, Heap.get?_push_size _ rfl, rfl, rfl⟩ rfl ?_
  refine post_val_or_str (y := z) (z := ⟨((slicePicked z none none (some (-1, uk))).filterMap (z.cps[·]?)).toArray⟩) ?_
  have e := rev_step z uk
  unfold Txt.sliceBy at e
  rw [e]
  refine ⟨?_, fun t' k => ⟨.str (revS z), H4, I5.tok _, ⟨_, rfl⟩, q⟩⟩
  rw [← cs_len, cs_revS, List.length_reverse, cs_len]
  exact hz
end Lb


namespace EnS
open PySem PySem.Spec PyProof.Rows L2 SetQ
open PySem.W (dataLt alike dataLe)
/-! ### the order of pairs and arcs -/
def wkey (x : Str) : PyData := .tuple [.int ((x.length : Nat) : Int), .str x]
def pkey (i : Int) (x : Str) : PyData := .tuple [.int i, wkey x]
def akey (i : Int) (l x : Str) (j : Int) : PyData := .tuple [.int i, .str l, wkey x, .int j]
theorem alike_ii (i j : Int) : alike (.int i) (.int j) = true := by simp [alike]
theorem alike_ss (x y : Str) : alike (.str x) (.str y) = true := by simp [alike]
theorem alike_w (x y : Str) : alike (wkey x) (wkey y) = true := by simp [wkey, alike, PySem.W.alikeAll]
theorem eqv_ii (i j : Int) : PyData.eqv (.int i) (.int j) = true ↔ i = j := by simp [PyData.eqv]
theorem eqv_ss (x y : Str) : PyData.eqv (.str x) (.str y) = true ↔ x = y := by simp [PyData.eqv]
theorem eqv_w (x y : Str) : PyData.eqv (wkey x) (wkey y) = true ↔ x = y := by
  unfold wkey
  simp only [PyData.eqv, PyData.eqvAll, Bool.and_true, Bool.and_eq_true, beq_iff_eq]
  exact ⟨fun h => h.2, fun h => ⟨by rw [h], h⟩⟩
theorem lt_w (x y : Str) : dataLt (wkey x) (wkey y) = MinQ.kLt x y := by
  unfold wkey
  rw [PySem.W.dataLt_pair (alike_ii _ _) (alike_ss _ _), PySem.W.dataLt_int, PySem.W.dataLt_str]
  unfold MinQ.kLt
  by_cases h : x.length = y.length
  · rw [if_pos ((eqv_ii _ _).mpr (by rw [h])), if_pos h]
    by_cases e : x = y
    · subst e
      rw [if_pos ((eqv_ss _ _).mpr rfl)]
      exact (decide_eq_false (List.lt_irrefl _)).symm
    · rw [if_neg fun z => e ((eqv_ss _ _).mp z)]
  · rw [if_neg (fun z => h (by have := (eqv_ii _ _).mp z; omega)), if_neg h]
    exact decide_eq_decide.mpr (by omega)
theorem kTri {x y : Str} (h : MinQ.kLt x y = false) (ne : x ≠ y) : Bef y x := by
  refine Classical.byContradiction fun n => ?_
  have h1 : ¬ Bef x y := fun b => by
    rw [MinQ.kLt_true.mpr b] at h
    cases h
  unfold Bef at n h1
  have le : x.length = y.length := by omega
  have a : ¬ x.cps.toList < y.cps.toList := fun z => h1 (.inr ⟨le, z⟩)
  have b : ¬ y.cps.toList < x.cps.toList := fun z => n (.inr ⟨le.symm, z⟩)
  have e := List.le_antisymm (List.not_lt.mp b) (List.not_lt.mp a)
  refine ne ?_
  cases x with | mk p => cases y with | mk q =>
  have : p.toList = q.toList := e
  rw [Array.toList_inj.mp this]
/-- the pairs in their order -/
def PLt (e f : Int × Str) : Prop := e.1 < f.1 ∨ (e.1 = f.1 ∧ Bef e.2 f.2)
theorem le_pkey {e f : Int × Str} (h : (!dataLt (pkey f.1 f.2) (pkey e.1 e.2)) = true) (ne : e ≠ f) : PLt e f := by
  unfold pkey at h
  rw [PySem.W.dataLt_pair (alike_ii _ _) (alike_w _ _), PySem.W.dataLt_int, lt_w] at h
  by_cases hi : f.1 = e.1
  · rw [if_pos ((eqv_ii _ _).mpr hi)] at h
    by_cases hx : f.2 = e.2
    · exact (ne (Prod.ext hi.symm hx.symm)).elim
    · rw [if_neg fun z => hx ((eqv_w _ _).mp z)] at h
      refine .inr ⟨hi.symm, kTri ?_ hx⟩
      cases k : MinQ.kLt f.2 e.2 with
      | false => rfl
      | true =>
        rw [k] at h
        cases h
  · rw [if_neg fun z => hi ((eqv_ii _ _).mp z)] at h
    by_cases lt : f.1 < e.1
    · rw [decide_eq_true lt] at h
      cases h
    · exact .inl (by omega)
/-- the arcs in their order: state, letter, word, state -/
abbrev Arc := Int × Str × Str × Int
def ALt (e f : Arc) : Prop := e.1 < f.1 ∨ (e.1 = f.1 ∧ (e.2.1.cps.toList < f.2.1.cps.toList ∨ (e.2.1 = f.2.1 ∧ (Bef e.2.2.1 f.2.2.1 ∨ (e.2.2.1 = f.2.2.1 ∧ e.2.2.2 < f.2.2.2)))))
theorem le_akey {e f : Arc} (h : (!dataLt (akey f.1 f.2.1 f.2.2.1 f.2.2.2) (akey e.1 e.2.1 e.2.2.1 e.2.2.2)) = true) (ne : e ≠ f) : ALt e f := by
  unfold akey at h
  rw [PySem.W.dataLt_tuple, PySem.W.dataLt_cons (alike_ii _ _), PySem.W.dataLt_cons (alike_ss _ _), PySem.W.dataLt_cons (alike_w _ _), PySem.W.dataLt_cons (alike_ii _ _), PySem.W.dataLt_int, PySem.W.dataLt_int, PySem.W.dataLt_str, lt_w] at h
  by_cases hi : f.1 = e.1
  case neg =>
    rw [if_neg fun z => hi ((eqv_ii _ _).mp z)] at h
    by_cases lt : f.1 < e.1
    · rw [decide_eq_true lt] at h
      cases h
    · exact .inl (by omega)
  rw [if_pos ((eqv_ii _ _).mpr hi)] at h
  refine .inr ⟨hi.symm, ?_⟩
  by_cases hl : f.2.1 = e.2.1
  case neg =>
    rw [if_neg fun z => hl ((eqv_ss _ _).mp z)] at h
    refine .inl (Classical.byContradiction fun n => ?_)
    by_cases lt : f.2.1.cps.toList < e.2.1.cps.toList
    · rw [decide_eq_true lt] at h
      cases h
    · have q := List.le_antisymm (List.not_lt.mp n) (List.not_lt.mp lt)
      refine hl ?_
      generalize f.2.1 = x at q ⊢
      generalize e.2.1 = y at q ⊢
      cases x with | mk p => cases y with | mk r =>
      have : p.toList = r.toList := q
      rw [Array.toList_inj.mp this]
  rw [if_pos ((eqv_ss _ _).mpr hl)] at h
  refine .inr ⟨hl.symm, ?_⟩
  by_cases hx : f.2.2.1 = e.2.2.1
  case neg =>
    rw [if_neg fun z => hx ((eqv_w _ _).mp z)] at h
    refine .inl (kTri ?_ hx)
    cases k : MinQ.kLt f.2.2.1 e.2.2.1 with
    | false => rfl
    | true =>
      rw [k] at h
      cases h
  rw [if_pos ((eqv_w _ _).mpr hx)] at h
  refine .inr ⟨hx.symm, ?_⟩
  by_cases hj : f.2.2.2 = e.2.2.2
  · exact (ne (Prod.ext hi.symm (Prod.ext hl.symm (Prod.ext hx.symm hj.symm)))).elim
  · rw [if_neg fun z => hj ((eqv_ii _ _).mp z)] at h
    by_cases lt : f.2.2.2 < e.2.2.2
    · rw [decide_eq_true lt] at h
      cases h
    · omega
theorem sort_pair {α : Type} (key : α → PyData) (xs : List α) : (xs.mergeSort (dataLe false key)).Pairwise fun a b => (!dataLt (key b) (key a)) = true :=
  PySem.W.sort_pairwise (le := dataLe false key) (show PySem.W.TotalLe (dataLe false key) from PySem.W.sortLe_total _ false _) xs
theorem depth_pkey (i : Int) (x : Str) : (pkey i x).depth ≤ 16 := by
  simp [pkey, wkey, PyData.depth, PyData.depthAll]
theorem depth_akey (i : Int) (l x : Str) (j : Int) : (akey i l x j).depth ≤ 16 := by
  simp [akey, wkey, PyData.depth, PyData.depthAll]
theorem alike_pkey (i : Int) (x : Str) (j : Int) (y : Str) : alike (pkey i x) (pkey j y) = true := by
  simp [pkey, alike, PySem.W.alikeAll, alike_w]
theorem alike_akey (i : Int) (l x : Str) (j : Int) (i' : Int) (l' x' : Str) (j' : Int) : alike (akey i l x j) (akey i' l' x' j') = true := by
  simp [akey, alike, PySem.W.alikeAll, alike_w]
end EnS

namespace Lb
open PySem PySem.Spec PyProof.Rows L2
/-! ### a class with an own __init__(self, f, g): self.f = f; self.g = g -/
def sp_init2 (K : PySem.W.Frag) (f g : Str) : Sp := fun vs H Q _ => ∃ (a C : Addr) (v u : V), vs = [.ref a, v, u] ∧ OexC K C ∧ PySem.W.findIn K (.ref C) f = some none ∧ PySem.W.findIn K (.ref C) g = some none ∧ H a = some (exo a C none) ∧
  ∀ dx, H dx = none → dx ≠ a → Q .non (upd (upd (upd H dx (exd dx [(f, v)])) a (exo a C (some dx))) dx (exd dx [(g, u), (f, v)]))
/-- C(e1, e2): a new error, its fields f and g -/
def tErr2 (C : Addr) (f g : Str) (ta : TA) : L2.St → Hp → XK → Prop := fun σ H Q => ta σ H fun vs H1 => ∃ v u, vs = [v, u] ∧ ∀ d, H1 d = none → Q (.ref C) (some d) (upd H1 d (.xd [(g, u), (f, v)]))
theorem pmk_err2 {X : Cx} {CX : CXT} {e e' : Expr} {ta : TA} {x f g : Str} {C fI : Addr} {k : Nat} {fd : FuncData} {ps : List Str} {p pos : Pos} (E : ErrT X.K X.mg x C) (iC : PySem.W.findIn X.K (.ref C) "__init__" = some (some (.ref fI))) (tI : PySem.W.typeIn X.K (.ref fI) = some (.type "function"))
    (hno : PySem.W.findIn X.K (.ref C) f = some none) (hno' : PySem.W.findIn X.K (.ref C) g = some none) (F1 : FnOk X.prog X.w X.K X.mg X.base CX k fI fd ps (sp_init2 X.K f g)) (hr : Room (k + 1) X.A) (hb : Binds X.K fd ps []) (hx : Passes CX X (fun _ _ _ => False)) (ha : PA X [e, e'] ta) (hg : Gl X x := by rfl)
    (hdb : (x == ("__debug__" : Str)) = false := by decide) (he : starEach [e, e'] X.env = (false, eval e X.env) :: starEach [e'] X.env := by rfl) (hpl : (backTo pos (starEach [e'] X.env)).any (·.1) = false := by rfl) :
    PMk X (.Call (.Name x p) [e, e'] [] pos) (tErr2 C f g ta) := by
  intro pins s σ H Q I h
  refine pmk_oex (dvs := []) E.o iC tI F1 hr hb .nil hx hg E.g (pa_weak ha) hdb he hpl pins s σ H Q I ⟨_, h, fun vs H1 z => ?_⟩
  obtain ⟨v, u, rfl, q⟩ := z
  refine ⟨by show 2 ≤ 1000; decide, fun a na => ⟨a, C, v, u, rfl, E.o, hno, hno', upd_same, fun dx nd ne => ?_⟩⟩
  have nd1 : H1 dx = none := by
    rw [upd_ne ne] at nd
    exact nd
  refine ⟨rfl, dx, [(g, u), (f, v)], by rw [upd_ne (Ne.symm ne), upd_same], upd_same, nd1, ?_⟩
  have e : upd (del (upd (upd (upd (upd H1 a (exo a C none)) dx (exd dx [(f, v)])) a (exo a C (some dx))) dx (exd dx [(g, u), (f, v)])) a) dx (.xd [(g, u), (f, v)]) = upd H1 dx (.xd [(g, u), (f, v)]) := by
    funext b
    by_cases b1 : b = dx
    · rw [b1, upd_same, upd_same]
    · rw [upd_ne b1, upd_ne b1]
      by_cases b2 : b = a
      · rw [b2, del_same, na]
      · rw [del_ne b2, upd_ne b1, upd_ne b2, upd_ne b1, upd_ne b2]
  rw [e]
  exact q dx nd1
/-- __init__(self, f, g): self.f = f; self.g = g -/
theorem ok_init2 {P : Program} {w : World} {K : PySem.W.Frag} {mg : Str → Option Value} {base : Heap} {x qual f g : Str} {st : Stmt} {fI : Addr} {fd : FuncData} {p0 p1 p2 p3 p4 p5 p6 p7 : Pos} {k : Nat} (F : Fun K x qual st fI fd) (S : FnScope ["self", f, g] ["self", f, g] (defScope st))
    (body : defBody st = [.Assign [.Attribute (.Name "self" p0) f p1] (.Name f p2) p3, .Assign [.Attribute (.Name "self" p4) g p5] (.Name g p6) p7]) (v0 : Vis (defScope st) "self" := by exact Or.inl rfl) (v1 : Vis (defScope st) f := by exact Or.inl rfl) (v2 : Vis (defScope st) g := by exact Or.inl rfl)
    (d1 : (f == ("__debug__" : Str)) = false := by decide) (d2 : (f == ("__classdict__" : Str)) = false := by decide) (d3 : (g == ("__debug__" : Str)) = false := by decide) (d4 : (g == ("__classdict__" : Str)) = false := by decide) :
    FnOk P w K mg base CX0 (k + 1) fI fd ["self", f, g] (sp_init2 K f g) := by
  refine F.ok S (fun vs H Q E h => ?_) (fun cdv A outer s H vs Q E hr h => ?_)
  · obtain ⟨a, C, v, u, rfl, _⟩ := h
    rfl
  · obtain ⟨a, C, v, u, rfl, T, no, no', e, q⟩ := h
    rw [body]
    refine ⟨_, pss_cons (ps_ost (pv 0 rfl v0) (pv 1 rfl v1 d1 d2)) (pss_one (ps_ost (pv 0 rfl v0) (pv 2 rfl v2 d3 d4))), v, rfl, .ref a, rfl, a, C, rfl, T, no, .inl ⟨e, fun dx n ne => ?_⟩⟩
    exact ⟨u, rfl, .ref a, rfl, a, C, rfl, T, no', .inr ⟨dx, [(f, v)], upd_same, by rw [upd_ne ne, upd_same], by show 1 ≤ 900; decide, q dx n ne⟩⟩
/-! ### C(e, .., k = v, ..), its error passed on -/
def tMakeKS (C : Addr) (n m : Nat) (sp : Sp) (gV : List V → List V → List V) (E : L2.St → XK) (t tk : TA) : TE := fun σ H Q => t σ H fun vs H1 => tk σ H1 fun zs H2 => vs.length = n ∧ zs.length = m ∧ ∀ x dx, H2 x = none → H2 dx = none → dx ≠ x →
  sp (gV (.ref x :: vs) zs) (upd (upd H2 dx (.own x)) x (.ins C dx [])) (fun v H3 => v = .non ∧ Q (.ref x) H3) (E σ)
section
variable {X : Cx} {CX : CXT} {k n : Nat} {f C : Addr} {fd : FuncData} {ps ks : List Str} {sp : Sp} {E : L2.St → XK} {x : Str} {p pos : Pos} {e : Expr} {es : List Expr} {kws : List Keyword} {t tk : TA} {g : List Value → List Value → List Value} {gV : List V → List V → List V}
theorem run_makeKS {pins : List (Addr × Obj)} {σ : L2.St} {H : Hp} {s : Shared} {Q : VK} {us ws : List Value} {vs zs : List V} (M : Mk X.K C f) (F : FnOk X.prog X.w X.K X.mg X.base CX k f fd ps sp) (hr : Room (k + 1) X.A) (hb : KBn X.K fd ps (n + 1) ks g gV) (hx : PassesAt CX X σ (E σ))
    (I : Inv X pins σ H s) (r : Vals vs us) (rz : Vals zs ws) (l1 : vs.length = n) (l2 : zs.length = ks.length)
    (h : ∀ x dx, H x = none → H dx = none → dx ≠ x → sp (gV (.ref x :: vs) zs) (upd (upd H dx (.own x)) x (.ins C dx [])) (fun v H2 => v = .non ∧ Q (.ref x) H2) (E σ)) :
    wpAny (model X.prog X.w) X.A (call (.ref C) us (ks.zip ws)) (EP X pins σ Q) X.xe s := by
  have hq := h (s.heap.objs.size + 1) s.heap.objs.size (I.hok.fresh (Nat.le_succ _)) (I.hok.fresh (Nat.le_refl _)) (Nat.ne_of_lt (Nat.lt_succ_self _))
  have I2 := Inv.made (C := C) I
  have r1 : Vals (V.ref (s.heap.objs.size + 1) :: vs) (Value.ref (s.heap.objs.size + 1) :: us) := .cons rfl r
  have r2 := hb.rel r1 rz
  have n1 : (Value.ref (s.heap.objs.size + 1) :: us).length = n + 1 := by
    rw [List.length_cons, ← r.length, l1]
  refine wpAny_call (make_map (f := f) I.kIn M.makes M.init (beq_iff_eq.mp M.fn) (codeAny_mono (F.run _ X.stack _ _ ⟨Value.ref (s.heap.objs.size + 1) :: us, ks.zip ws⟩ (g (Value.ref (s.heap.objs.size + 1) :: us) ws) _ _ (E σ) (hr.make C us (ks.zip ws))
    (I2.env0.make C us (ks.zip ws)) (hb.to _ (Value.ref (s.heap.objs.size + 1) :: us) ws I2.kIn n1 (rz.length.symm.trans l2)) r2 hq) fun r s' hq' => ?_))
  cases r with
  | error e => exact hx pins _ _ e s' I2 hq'
  | ok fl =>
    cases fl with
    | ret u =>
      obtain ⟨v, H', I3, rv, ev, q3⟩ := I2.after hq'
      subst ev
      exact ⟨rv, ⟨V.ref (s.heap.objs.size + 1), H', I3, rfl, q3⟩⟩
    | next => exact False.elim hq'
    | brk => exact False.elim hq'
    | cont => exact False.elim hq'
theorem pe_makeKS (M : Mk X.K C f) (F : FnOk X.prog X.w X.K X.mg X.base CX k f fd ps sp) (hr : Room (k + 1) X.A) (hg : Gl X x) (hm : X.mg x = some (.ref C)) (hb : KBn X.K fd ps (n + 1) ks g gV) (hx : ∀ σ, PassesAt CX X σ (E σ)) (ha : PA X (e :: es) t) (hkw : PK X kws tk)
    (hall : (backToKw pos (keywordEach kws X.env)).all (·.1.isSome) = true := by rfl) (hks : (backToKw pos (keywordEach kws X.env)).filterMap (·.1) = ks := by rfl) (hdb : (x == ("__debug__" : Str)) = false := by decide)
    (he : starEach (e :: es) X.env = (false, eval e X.env) :: starEach es X.env := by rfl) (hpl : ((backTo pos (starEach (e :: es) X.env)).any (·.1) || (backToKw pos (keywordEach kws X.env)).any (·.1.isNone)) = false := by rfl) :
    PE X (.Call (.Name x p) (e :: es) kws pos) (tMakeKS C n ks.length sp gV E t tk) := by
  refine ⟨fun pins s σ H Q I h => ?_⟩
  refine wpAny_Call_Name_kw (ld_glob I hg hm ?_ hdb)
  refine PySem.W.callWith_KW (h₀ := X.base) I.ok.mod.kin M.kp hall (thn (ha.run pos pins s σ H _ I h) fun us s1 ⟨vs, H1, I1, r, q⟩ => ?_) hpl he
  refine thn (hkw.run pos pins s1 σ H1 _ I1 q) fun ws s2 ⟨zs, H2, I2, rz, l1, l2, q2⟩ => ⟨I2.kIn, ?_⟩
  rw [hks]
  exact run_makeKS M F hr hb (hx σ) I2 r rz l1 l2 q2
end
end Lb

namespace Lb
open PySem PySem.Spec PyProof.Rows L2
def inR : V → Int → Int → Bool
  | .int i, lo, hi => decide (lo ≤ i) && decide (i ≤ hi)
  | _, _, _ => false
/-- an error of the class at C with that value, at any later heap -/
def Raised [Tabl] (H : Hp) (C : Addr) (v : V) (E : XK) : Prop := ∀ (d : Addr) (H1 H' : Hp), Same H H1 → H1 d = none → H' = upd H1 d (.xd [("value", v)]) → E (.ref C) (some d) H'
theorem Raised.same [Tabl] {H H1 : Hp} {C : Addr} {v : V} {E : XK} (r : Raised H C v E) (s : Same H H1) : Raised H1 C v E := fun d H2 H' s2 n e => r d H2 H' (s.trans s2) n e
/-- v is an alphabet, v is a word over the alphabet L -/
def AlphaV (v : V) : Prop := ∃ z, v = .str z ∧ IsAlpha z
def WordV (L v : V) (m : Nat) : Prop := ∃ z x, L = .str z ∧ v = .str x ∧ IsAlpha z ∧ Over z x ∧ x.length ≤ m
def plainV : V → Bool
  | .non => true
  | .bl _ => true
  | .int _ => true
  | .str _ => true
  | _ => false
/-- equal plain values, or two tuples, two lists with items that rel relates -/
def SameR (rel : Hp → V → V → Prop) (H : Hp) (x y : V) : Prop := (x = y ∧ plainV y = true) ∨ ∃ (p q : Addr) (xs ys : List V), x = .ref p ∧ y = .ref q ∧
  ((H p = some (.tup xs) ∧ H q = some (.tup ys)) ∨ (H p = some (.lst xs) ∧ H q = some (.lst ys))) ∧ xs.length = ys.length ∧ ys.length ≤ 1000000 ∧ ∀ (i : Nat) (x' y' : V), xs[i]? = some x' → ys[i]? = some y' → rel H x' y'
def SameD : Nat → Hp → V → V → Prop
  | 0 => SameR fun _ _ _ => False
  | n + 1 => SameR (SameD n)
/-- a plain value of at most n levels, apart from the store at a -/
def DeepR (a : Addr) (rel : Hp → V → Prop) (H : Hp) (v : V) : Prop := (plainV v = true ∧ (∀ x : Str, v = .str x → x.length ≤ 1000000) ∧ ∀ i : Int, v = .int i → i.natAbs < 2 ^ 13000) ∨
  ∃ (p : Addr) (xs : List V), v = .ref p ∧ p ≠ a ∧ (H p = some (.lst xs) ∨ H p = some (.tup xs)) ∧ xs.length ≤ 1000000 ∧ ∀ x ∈ xs, rel H x
def Deep (a : Addr) : Nat → Hp → V → Prop
  | 0 => DeepR a fun _ _ => False
  | n + 1 => DeepR a (Deep a n)
theorem Deep.but [Tabl] {a : Addr} {H H' : Hp} (k : But a H H') : ∀ {n : Nat} {v : V}, Deep a n H v → Deep a n H' v
  | 0, v, h => h.elim .inl fun ⟨p, xs, e, ne, o, l, r⟩ => .inr ⟨p, xs, e, ne, o.elim (fun q => .inl (k _ _ ne q)) (fun q => .inr (k _ _ ne q)), l, r⟩
  | n + 1, v, h => h.elim .inl fun ⟨p, xs, e, ne, o, l, r⟩ => .inr ⟨p, xs, e, ne, o.elim (fun q => .inl (k _ _ ne q)) (fun q => .inr (k _ _ ne q)), l, fun x m => Deep.but k (r x m)⟩
theorem Deep.same [Tabl] {a : Addr} {H H' : Hp} {n : Nat} {v : V} (h : Deep a n H v) (s : Same H H') : Deep a n H' v := h.but (But.same s)
theorem Deep.up {a : Addr} {H : Hp} : ∀ {n : Nat} {v : V}, Deep a n H v → Deep a (n + 1) H v
  | 0, v, h => h.elim .inl fun ⟨p, xs, e, ne, o, l, r⟩ => .inr ⟨p, xs, e, ne, o, l, fun x m => (r x m).elim⟩
  | n + 1, v, h => h.elim .inl fun ⟨p, xs, e, ne, o, l, r⟩ => .inr ⟨p, xs, e, ne, o, l, fun x m => Deep.up (r x m)⟩
theorem Deep.le {a : Addr} {H : Hp} {n m : Nat} {v : V} (h : Deep a n H v) (l : n ≤ m) : Deep a m H v := by
  induction l with
  | refl => exact h
  | step _ ih => exact ih.up
theorem Deep.shal {a : Addr} {H : Hp} {n : Nat} {v : V} (h : Deep a n H v) : Shal H v := by
  have key : ∀ rel, DeepR a rel H v → Shal H v := by
    rintro rel (⟨pl, tx, _⟩ | ⟨p, xs, e, _, o, _⟩)
    · cases v with
      | non => exact .inr (.inl rfl)
      | bl b => exact .inr (.inr (.inl ⟨b, rfl⟩))
      | int i => exact .inr (.inr (.inr (.inl ⟨i, rfl⟩)))
      | str x => exact .inl ⟨x, rfl, tx x rfl⟩
      | _ => cases pl
    · exact .inr (.inr (.inr (.inr ⟨p, xs, e, o⟩)))
  cases n with
  | zero => exact key _ h
  | succ n => exact key _ h
theorem deep_atom {a : Addr} {H : Hp} {n : Nat} {v : V} (pl : plainV v = true) (tx : ∀ x : Str, v = .str x → x.length ≤ 1000000) (it : ∀ i : Int, v = .int i → i.natAbs < 2 ^ 13000) : Deep a n H v := by
  cases n <;> exact .inl ⟨pl, tx, it⟩
theorem deep_str {a : Addr} {H : Hp} {n : Nat} {x : Str} (l : x.length ≤ 1000000) : Deep a n H (.str x) := deep_atom rfl (fun y e => by cases e; exact l) (fun i e => by cases e)
theorem deep_int {a : Addr} {H : Hp} {n : Nat} {i : Int} (l : i.natAbs < 2 ^ 13000) : Deep a n H (.int i) := deep_atom rfl (fun y e => by cases e) (fun j e => by cases e; exact l)
theorem deep_non {a : Addr} {H : Hp} {n : Nat} : Deep a n H .non := deep_atom rfl (fun y e => by cases e) (fun i e => by cases e)
theorem deep_bl {a : Addr} {H : Hp} {n : Nat} {b : Bool} : Deep a n H (.bl b) := deep_atom rfl (fun y e => by cases e) (fun i e => by cases e)
theorem deep_lst {a p : Addr} {H : Hp} {n : Nat} {xs : List V} (ne : p ≠ a) (e : H p = some (.lst xs)) (l : xs.length ≤ 1000000) (r : ∀ x ∈ xs, Deep a n H x) : Deep a (n + 1) H (.ref p) := .inr ⟨p, xs, rfl, ne, .inl e, l, r⟩
theorem deep_tup {a p : Addr} {H : Hp} {n : Nat} {xs : List V} (ne : p ≠ a) (e : H p = some (.tup xs)) (l : xs.length ≤ 1000000) (r : ∀ x ∈ xs, Deep a n H x) : Deep a (n + 1) H (.ref p) := .inr ⟨p, xs, rfl, ne, .inr e, l, r⟩
theorem Deep.samed {a : Addr} {H : Hp} : ∀ {n : Nat} {v : V}, Deep a n H v → SameD n H v v
  | 0, v, h => h.elim (fun q => .inl ⟨rfl, q.1⟩) fun ⟨p, xs, e, ne, o, l, r⟩ => .inr ⟨p, p, xs, xs, e, e, o.elim (fun q => .inr ⟨q, q⟩) (fun q => .inl ⟨q, q⟩), rfl, l, fun i x y ex ey => (r x (List.mem_of_getElem? ex)).elim⟩
  | n + 1, v, h => h.elim (fun q => .inl ⟨rfl, q.1⟩) fun ⟨p, xs, e, ne, o, l, r⟩ => .inr ⟨p, p, xs, xs, e, e, o.elim (fun q => .inr ⟨q, q⟩) (fun q => .inl ⟨q, q⟩), rfl, l, fun i x y ex ey => by
      rw [ex] at ey
      cases ey
      exact Deep.samed (r x (List.mem_of_getElem? ex))⟩
theorem SameD.keep [Tabl] {H H' : Hp} (s : Same H H') : ∀ {n : Nat} {x y : V}, SameD n H x y → SameD n H' x y
  | 0, x, y, h => h.elim .inl fun ⟨p, q, xs, ys, e1, e2, o, l, m, r⟩ => .inr ⟨p, q, xs, ys, e1, e2, o.elim (fun z => .inl ⟨s _ _ z.1, s _ _ z.2⟩) (fun z => .inr ⟨s _ _ z.1, s _ _ z.2⟩), l, m, fun i a b ea eb => (r i a b ea eb).elim⟩
  | n + 1, x, y, h => h.elim .inl fun ⟨p, q, xs, ys, e1, e2, o, l, m, r⟩ => .inr ⟨p, q, xs, ys, e1, e2, o.elim (fun z => .inl ⟨s _ _ z.1, s _ _ z.2⟩) (fun z => .inr ⟨s _ _ z.1, s _ _ z.2⟩), l, m, fun i a b ea eb => SameD.keep s (r i a b ea eb)⟩
theorem nodup_len : ∀ (l D : List Nat), l.Nodup → (∀ x ∈ l, x ∈ D) → l.length ≤ D.length
  | [], _, _, _ => Nat.zero_le _
  | x :: l, D, nd, h => by
    obtain ⟨h1, h2⟩ := List.nodup_cons.mp nd
    have ih := nodup_len l (D.erase x) h2 fun y hy => (List.mem_erase_of_ne (fun e : y = x => h1 (by rw [← e]; exact hy))).mpr (h y (List.mem_cons_of_mem _ hy))
    have m := h x (List.mem_cons_self ..)
    rw [List.length_erase_of_mem m] at ih
    have := List.length_pos_of_mem m
    rw [List.length_cons]
    omega
/-- one-sign texts joined -/
theorem signs_len {ys : List Str} (h : ∀ y ∈ ys, ∃ c, y = (⟨#[c]⟩ : Str)) : (ys.map (·.length)).sum = ys.length := by
  induction ys with
  | nil => rfl
  | cons y r ih =>
    obtain ⟨c, rfl⟩ := h y List.mem_cons_self
    rw [List.map_cons, List.sum_cons, ih fun x m => h x (List.mem_cons_of_mem _ m), List.length_cons]
    show 1 + r.length = r.length + 1
    omega
theorem join0_len (ys : List Str) : (Txt.join (Str.ofString "") ys).length = (ys.map (·.length)).sum := by
  rw [← cs_len, cs_join0, List.length_flatten, List.map_map]
  congr 1
theorem up3 (c : Nat) : (Txt.upper ⟨#[c]⟩).length ≤ 3 := by
  have h := PyProof.Rows.len_upper (⟨#[c]⟩ : Str)
  have e : (⟨#[c]⟩ : Str).length = 1 := rfl
  omega
theorem Deep.avoid {a D : Addr} {H : Hp} (nd : H D = none) : ∀ {n : Nat} {v : V}, Deep a n H v → Deep D n H v
  | 0, v, h => h.elim .inl fun ⟨p, xs, e, _, o, l, r⟩ => .inr ⟨p, xs, e, fun z => by subst z; rcases o with o | o <;> (rw [nd] at o; cases o), o, l, r⟩
  | n + 1, v, h => h.elim .inl fun ⟨p, xs, e, _, o, l, r⟩ => .inr ⟨p, xs, e, fun z => by subst z; rcases o with o | o <;> (rw [nd] at o; cases o), o, l, fun x m => Deep.avoid nd (r x m)⟩
theorem same_row {H : Hp} {p : Addr} {xs ys : List V} (h : H p = some (.lst xs) ∨ H p = some (.tup xs)) (k : H p = some (.lst ys) ∨ H p = some (.tup ys)) : xs = ys := by
  rcases h with h | h <;> rcases k with k | k <;> (rw [h] at k; cases k) <;> rfl
theorem Deep.put [Tabl] {b D : Addr} {H H' : Hp} (k : But D H H') : ∀ {n : Nat} {v : V}, Deep b n H v → Deep D n H v → Deep b n H' v
  | 0, v, h, g => h.elim .inl fun ⟨p, xs, e, ne, o, l, r⟩ => g.elim .inl fun ⟨q, ys, e2, nd, _⟩ => by
      subst e
      cases e2
      exact .inr ⟨p, xs, rfl, ne, o.elim (fun z => .inl (k _ _ nd z)) (fun z => .inr (k _ _ nd z)), l, r⟩
  | n + 1, v, h, g => h.elim .inl fun ⟨p, xs, e, ne, o, l, r⟩ => g.elim .inl fun ⟨q, ys, e2, nd, o2, _, r2⟩ => by
      subst e
      cases e2
      have := same_row o o2
      subst this
      exact .inr ⟨p, xs, rfl, ne, o.elim (fun z => .inl (k _ _ nd z)) (fun z => .inr (k _ _ nd z)), l, fun x m => Deep.put k (r x m) (r2 x m)⟩
theorem deep_ref {D p : Addr} {H : Hp} {n : Nat} {xs : List V} (g : Deep D n H (.ref p)) (o : H p = some (.lst xs) ∨ H p = some (.tup xs)) : p ≠ D ∧ ∀ m, n = m + 1 → ∀ x ∈ xs, Deep D m H x := by
  cases n with
  | zero =>
    rcases g with ⟨pl, _⟩ | ⟨q, ys, e, ne, _⟩
    · cases pl
    · cases e
      exact ⟨ne, fun m e => by cases e⟩
  | succ n =>
    rcases g with ⟨pl, _⟩ | ⟨q, ys, e, ne, o2, _, r⟩
    · cases pl
    · cases e
      have := same_row o o2
      subst this
      exact ⟨ne, fun m e => by cases e; exact r⟩
theorem SameD.put [Tabl] {D : Addr} {H H' : Hp} (k : But D H H') : ∀ {n : Nat} {x y : V}, SameD n H x y → Deep D n H x → Deep D n H y → SameD n H' x y
  | 0, x, y, h, gx, gy => h.elim .inl fun ⟨p, q, xs, ys, e1, e2, o, l, m, r⟩ => by
      subst e1
      subst e2
      have d1 := (deep_ref gx (o.elim (fun z => .inr z.1) fun z => .inl z.1)).1
      have d2 := (deep_ref gy (o.elim (fun z => .inr z.2) fun z => .inl z.2)).1
      exact .inr ⟨p, q, xs, ys, rfl, rfl, o.elim (fun z => .inl ⟨k _ _ d1 z.1, k _ _ d2 z.2⟩) (fun z => .inr ⟨k _ _ d1 z.1, k _ _ d2 z.2⟩), l, m, fun i a b ea eb => (r i a b ea eb).elim⟩
  | n + 1, x, y, h, gx, gy => h.elim .inl fun ⟨p, q, xs, ys, e1, e2, o, l, m, r⟩ => by
      subst e1
      subst e2
      have d1 := deep_ref gx (o.elim (fun z => .inr z.1) fun z => .inl z.1)
      have d2 := deep_ref gy (o.elim (fun z => .inr z.2) fun z => .inl z.2)
      exact .inr ⟨p, q, xs, ys, rfl, rfl, o.elim (fun z => .inl ⟨k _ _ d1.1 z.1, k _ _ d2.1 z.2⟩) (fun z => .inr ⟨k _ _ d1.1 z.1, k _ _ d2.1 z.2⟩), l, m, fun i a b ea eb => SameD.put k (r i a b ea eb) (d1.2 n rfl a (List.mem_of_getElem? ea)) (d2.2 n rfl b (List.mem_of_getElem? eb))⟩
theorem Same.some [Tabl] {H H' : Hp} (s : Same H H') {b : Addr} (h : H b ≠ none) : H' b ≠ none := fun e => h (s.free e)
/-- x == s, x any plain value, s a text -/
def rEqStr : R2 := fun x y H Q => ∃ z : Str, y = .str z ∧ Shal H x ∧ Q (.bl (decide (x = .str z))) H
theorem op_eqStr {X : Cx} (hu : X.A.units < cLine) : OpR X (compareOp .Eq) rEqStr := by
  intro pins s σ H x y v u Q I rx ry h
  obtain ⟨z, rfl, sx, q⟩ := h
  have flat : scal x (.str z) = true → wpAny (model X.prog X.w) X.A (compareOp .Eq v u) (EP X pins σ Q) X.xe s := fun sc => op_eq pins s σ H x (.str z) v u Q I rx ry ⟨sc, q⟩
  rcases sx with ⟨y, rfl, _⟩ | rfl | ⟨b, rfl⟩ | ⟨i, rfl⟩ | ⟨p, xs, rfl, h | h⟩
  · exact flat rfl
  · exact flat rfl
  · exact flat rfl
  · exact flat rfl
  · rw [decide_eq_false (fun e => by cases e)] at q
    obtain ⟨its, rv, hl, _⟩ := I.list (show SqL X.K H p xs from .inl (.inl h))
    obtain ⟨t', rfl⟩ := ry
    cases rx
    exact SeqAt.RcAt.list_str z t' hl.isList hu X.prog X.w _ _ ⟨.bl false, H, I, rfl, q⟩
  · rw [decide_eq_false (fun e => by cases e)] at q
    obtain ⟨its, rv, hl, _⟩ := I.tuple (show SqT X.K H p xs from .inl (.inl h))
    obtain ⟨t', rfl⟩ := ry
    cases rx
    exact SeqAt.RcAt.tuple_str z t' hl hu X.prog X.w _ _ ⟨.bl false, H, I, rfl, q⟩
def NameS (x : Str) : Prop := 1 ≤ x.length ∧ x.length ≤ 12 ∧ (∀ c, (cs x)[0]? = some c → c ∈ cs abc) ∧ ∀ c ∈ cs x, c ∈ cs abc ∨ c ∈ cs (Str.ofString "0123456789")
def NameV (v : V) : Prop := ∃ x, v = .str x ∧ NameS x
/-! like values, yes or no -/
def DeepE (dp : Hp → V → Prop) (H : Hp) (v : V) : Prop := (plainV v = true ∧ ∀ x : Str, v = .str x → x.length ≤ 1000000) ∨ ∃ (p : Addr) (xs : List V), v = .ref p ∧ (H p = some (.lst xs) ∨ H p = some (.tup xs)) ∧ xs.length ≤ 1000000 ∧ ∀ x ∈ xs, dp H x
def DeepN : Nat → Hp → V → Prop
  | 0 => DeepE fun _ _ => False
  | n + 1 => DeepE (DeepN n)
theorem Deep.toN {a : Addr} {H : Hp} : ∀ {n : Nat} {v : V}, Deep a n H v → DeepN n H v
  | 0, v, h => h.elim (fun q => .inl ⟨q.1, q.2.1⟩) fun ⟨p, xs, e, _, o, l, r⟩ => .inr ⟨p, xs, e, o, l, r⟩
  | n + 1, v, h => h.elim (fun q => .inl ⟨q.1, q.2.1⟩) fun ⟨p, xs, e, _, o, l, r⟩ => .inr ⟨p, xs, e, o, l, fun x m => Deep.toN (r x m)⟩
theorem DeepE.shal {dp : Hp → V → Prop} {H : Hp} {v : V} (h : DeepE dp H v) : Shal H v := by
  rcases h with ⟨pl, tx⟩ | ⟨p, xs, e, o, _⟩
  · cases v with
    | non => exact .inr (.inl rfl)
    | bl b => exact .inr (.inr (.inl ⟨b, rfl⟩))
    | int i => exact .inr (.inr (.inr (.inl ⟨i, rfl⟩)))
    | str x => exact .inl ⟨x, rfl, tx x rfl⟩
    | _ => cases pl
  · exact .inr (.inr (.inr (.inr ⟨p, xs, e, o⟩)))
/-- isinstance(v, tuple), isinstance(v, list) -/
theorem isi_tup {K : PySem.W.Frag} {H : Hp} {v : V} (h : Shal H v) : ∃ (t : Value) (b : Bool), TyX K H v t ∧ PySem.W.kitOne K t (.type "tuple") = some b ∧ (b = true ↔ ∃ p xs, v = .ref p ∧ H p = some (.tup xs)) := by
  rcases h with ⟨x, rfl, _⟩ | rfl | ⟨b, rfl⟩ | ⟨i, rfl⟩ | ⟨p, xs, rfl, h | h⟩
  · exact ⟨_, false, .base (.str x), kit_ty (by decide +kernel), ⟨fun e => (by cases e), fun ⟨p, xs, e, _⟩ => (by cases e)⟩⟩
  · exact ⟨_, false, .base .non, kit_ty (by decide +kernel), ⟨fun e => (by cases e), fun ⟨p, xs, e, _⟩ => (by cases e)⟩⟩
  · exact ⟨_, false, .base (.bl b), kit_ty (by decide +kernel), ⟨fun e => (by cases e), fun ⟨p, xs, e, _⟩ => (by cases e)⟩⟩
  · exact ⟨_, false, .base (.int i), kit_ty (by decide +kernel), ⟨fun e => (by cases e), fun ⟨p, xs, e, _⟩ => (by cases e)⟩⟩
  · exact ⟨_, false, .base (.lst h), kit_ty (by decide +kernel), ⟨fun e => (by cases e), fun ⟨p, xs, e, k⟩ => (by cases e; rw [h] at k; cases k)⟩⟩
  · exact ⟨_, true, .base (.tup h), kit_ty (by decide +kernel), ⟨fun _ => ⟨p, xs, rfl, h⟩, fun _ => rfl⟩⟩
theorem isi_lst {K : PySem.W.Frag} {H : Hp} {v : V} (h : Shal H v) : ∃ (t : Value) (b : Bool), TyX K H v t ∧ PySem.W.kitOne K t (.type "list") = some b ∧ (b = true ↔ ∃ p xs, v = .ref p ∧ H p = some (.lst xs)) := by
  rcases h with ⟨x, rfl, _⟩ | rfl | ⟨b, rfl⟩ | ⟨i, rfl⟩ | ⟨p, xs, rfl, h | h⟩
  · exact ⟨_, false, .base (.str x), kit_ty (by decide +kernel), ⟨fun e => (by cases e), fun ⟨p, xs, e, _⟩ => (by cases e)⟩⟩
  · exact ⟨_, false, .base .non, kit_ty (by decide +kernel), ⟨fun e => (by cases e), fun ⟨p, xs, e, _⟩ => (by cases e)⟩⟩
  · exact ⟨_, false, .base (.bl b), kit_ty (by decide +kernel), ⟨fun e => (by cases e), fun ⟨p, xs, e, _⟩ => (by cases e)⟩⟩
  · exact ⟨_, false, .base (.int i), kit_ty (by decide +kernel), ⟨fun e => (by cases e), fun ⟨p, xs, e, _⟩ => (by cases e)⟩⟩
  · exact ⟨_, true, .base (.lst h), kit_ty (by decide +kernel), ⟨fun _ => ⟨p, xs, rfl, h⟩, fun _ => rfl⟩⟩
  · exact ⟨_, false, .base (.tup h), kit_ty (by decide +kernel), ⟨fun e => (by cases e), fun ⟨p, xs, e, k⟩ => (by cases e; rw [h] at k; cases k)⟩⟩
/-- an atom is like itself alone -/
theorem same_atom {rel : Hp → V → V → Prop} {H : Hp} {x y : V} (h : plainV y = true) : SameR rel H x y ↔ x = y := by
  constructor
  · rintro (⟨e, _⟩ | ⟨p, q, xs, ys, e1, e2, _⟩)
    · exact e
    · rw [e2] at h
      cases h
  · exact fun e => .inl ⟨e, h⟩
/-! what an expression does first, told apart from what is done with its value -/
theorem next_to {D : Ends} {σ : L2.St} {H : Hp} (h : D.nx σ H) : tNext D σ H := h
theorem lift_if {tl : TE} {ta : TA} {sp : Sp} {S tr : TS} {D : Ends} {σ : L2.St} {H : Hp} (Pv : V → Hp → Prop) (h : ∀ Qx : VK, (∀ x H3, Pv x H3 → Qx x H3) → tl σ H Qx)
    (hk : ∀ x H3, Pv x H3 → tSeq (tIfS (tNot (tB (tCall sp [] E0 (tCons (tC x) ta)))) tr tNext) S D σ H3) : tSeq (tIfS (tNot (tB (tCall sp [] E0 (tCons tl ta)))) tr tNext) S D σ H := h _ hk
theorem lift_asg {tl : TE} {S : TS} {tg : TG} {D : Ends} {σ : L2.St} {H : Hp} (Pv : V → Hp → Prop) (h : ∀ Qx : VK, (∀ x H3, Pv x H3 → Qx x H3) → tl σ H Qx)
    (hk : ∀ x H3, Pv x H3 → tSeq (tAsg (tC x) tg) S D σ H3) : tSeq (tAsg tl tg) S D σ H := h _ hk
theorem lift_ret {tl : TE} {ta : TA} {sp : Sp} {D : Ends} {σ : L2.St} {H : Hp} (Pv : V → Hp → Prop) (h : ∀ Qx : VK, (∀ x H3, Pv x H3 → Qx x H3) → tl σ H Qx)
    (hk : ∀ x H3, Pv x H3 → tRet (tCall sp [] E0 (tCons (tC x) ta)) D σ H3) : tRet (tCall sp [] E0 (tCons tl ta)) D σ H := h _ hk
theorem lift_if2 {tl tl2 : TE} {sp : Sp} {S tr : TS} {D : Ends} {σ : L2.St} {H : Hp} (Pv : V → V → Hp → Prop) (h : ∀ Qx : V → VK, (∀ x y H3, Pv x y H3 → Qx x y H3) → tl σ H fun x H1 => tl2 σ H1 fun y H2 => Qx x y H2)
    (hk : ∀ x y H3, Pv x y H3 → tSeq (tIfS (tNot (tB (tCall sp [] E0 (tCons (tC x) (tCons (tC y) tNil))))) tr tNext) S D σ H3) : tSeq (tIfS (tNot (tB (tCall sp [] E0 (tCons tl (tCons tl2 tNil))))) tr tNext) S D σ H := h _ hk
/-! two for in a comprehension -/
theorem lc2_in {J1 : It} {n1 : Nat} {G1 : Hp → Prop} {Y1 : Nat → Hp → V → Hp → Prop} (w : Walk J1 n1 G1 Y1) {g1 : TG} {tt1 : TT} {te : TE} {vs1 : List Nat} {σ2 : L2.St} {H4 : Hp} {D : Addr} {Nx : Hp → Prop} (Pv : Nat → Hp → Prop) (h0 : Pv 0 H4) (hG : ∀ i H, i ≤ n1 → Pv i H → G1 H)
    (hs : ∀ j x H H', j < n1 → Pv j H → Y1 j H x H' → g1 x (wipe σ2 vs1) H' fun σ3 H5 => wipe σ3 vs1 = wipe σ2 vs1 ∧ tt1 σ3 H5 fun b H6 =>
      if b = true then te σ3 H6 fun y H7 => ∃ acc, H7 D = some (.lst acc) ∧ acc.length < sizeLine ∧ Pv (j + 1) (upd H7 D (.lst (acc ++ [y]))) else Pv (j + 1) H6) (hd : ∀ H, Pv n1 H → Nx H) :
    ∃ W1 : Nat → Nat → Hp → Prop, (∃ m, W1 0 m H4) ∧ ∀ j k H, W1 j k H →
      (J1.stop j H ∧ Nx H) ∨ (J1.go j H ∧ ∃ Nx1 : Hp → Prop, (∀ H', Nx1 H' → ∃ k', k' < k ∧ W1 (j + 1) k' H') ∧ ∀ x H', J1.yld j H x H' → g1 x (wipe σ2 vs1) H' fun σ3 H5 => wipe σ3 vs1 = wipe σ2 vs1 ∧ tt1 σ3 H5 fun b H6 =>
        if b = true then te σ3 H6 fun y H7 => ∃ acc, H7 D = some (.lst acc) ∧ acc.length < sizeLine ∧ Nx1 (upd H7 D (.lst (acc ++ [y]))) else Nx1 H6) := by
  refine ⟨fun i m H => m = n1 - i ∧ i ≤ n1 ∧ Pv i H, ⟨n1, by simp, Nat.zero_le _, h0⟩, ?_⟩
  rintro i m H ⟨rfl, hi, q⟩
  have gg := hG i H hi q
  by_cases hlt : i < n1
  · refine .inr ⟨w.goes i H hlt gg, Pv (i + 1), fun H' p' => ⟨n1 - (i + 1), by omega, rfl, hlt, p'⟩, fun x H' y => hs i x H H' hlt q (w.yields i H x H' hlt gg y)⟩
  · have e : i = n1 := by omega
    subst e
    exact .inl ⟨w.stops H gg, hd H q⟩
theorem lc2_out {J : It} {n : Nat} {G : Hp → Prop} {Y : Nat → Hp → V → Hp → Prop} (w : Walk J n G Y) {H1 : Hp} {Qd : Hp → Prop} {Step : (Hp → Prop) → V → Hp → Prop} {D : Addr} (Pv : Nat → Hp → Prop) (h0 : Pv 0 (upd H1 D (.lst []))) (hG : ∀ i H, i ≤ n → Pv i H → G H)
    (hs : ∀ i x H H', i < n → Pv i H → Y i H x H' → Step (Pv (i + 1)) x H') (hd : ∀ H, Pv n H → Qd H) :
    ∃ W : Nat → Nat → Hp → Prop, (∃ m, W 0 m (upd H1 D (.lst []))) ∧ ∀ i m H, W i m H →
      (J.stop i H ∧ Qd H) ∨ (J.go i H ∧ ∃ Nx : Hp → Prop, (∀ H', Nx H' → ∃ m', m' < m ∧ W (i + 1) m' H') ∧ ∀ x H', J.yld i H x H' → Step Nx x H') := by
  refine ⟨fun i m H => m = n - i ∧ i ≤ n ∧ Pv i H, ⟨n, by simp, Nat.zero_le _, h0⟩, ?_⟩
  rintro i m H ⟨rfl, hi, q⟩
  have gg := hG i H hi q
  by_cases hlt : i < n
  · refine .inr ⟨w.goes i H hlt gg, Pv (i + 1), fun H' p' => ⟨n - (i + 1), by omega, rfl, hlt, p'⟩, fun x H' y => hs i x H H' hlt q (w.yields i H x H' hlt gg y)⟩
  · have e : i = n := by omega
    subst e
    exact .inl ⟨w.stops H gg, hd H q⟩
theorem cutV_upto (xs : List V) (k : Nat) : cutV xs none (some (k : Int)) = xs.take k := by
  show (xs.drop (HT.sIx xs.length 0 none)).take (HT.sIx xs.length xs.length (some (k : Int)) - HT.sIx xs.length 0 none) = _
  rw [HT.sIx_none, HT.sIx_nat, List.drop_zero, Nat.sub_zero]
  by_cases h : k ≤ xs.length
  · rw [Nat.min_eq_left h]
  · rw [Nat.min_eq_right (by omega), List.take_of_length_le (Nat.le_refl _), List.take_of_length_le (by omega)]
theorem DeepN.same [Tabl] {H H' : Hp} (s : Same H H') : ∀ {n : Nat} {v : V}, DeepN n H v → DeepN n H' v
  | 0, v, h => h.elim .inl fun ⟨p, xs, e, o, l, r⟩ => .inr ⟨p, xs, e, o.elim (fun z => .inl (s _ _ z)) (fun z => .inr (s _ _ z)), l, fun x m => (r x m).elim⟩
  | n + 1, v, h => h.elim .inl fun ⟨p, xs, e, o, l, r⟩ => .inr ⟨p, xs, e, o.elim (fun z => .inl (s _ _ z)) (fun z => .inr (s _ _ z)), l, fun x m => DeepN.same s (r x m)⟩
theorem skip_seq {c : TT} {t S : TS} {D : Ends} {σ : L2.St} {H : Hp} (Pv : Hp → Prop) (hc : ∀ Q : Bool → Hp → Prop, (∀ H', Pv H' → Q false H') → c σ H Q) (hu : ∀ H', Pv H' → S D σ H') : tSeq (tIfS c t tNext) S D σ H :=
  hc _ fun H' p => iteF (hu H' p)
theorem lift_not {tl : TE} {ta : TA} {sp : Sp} {σ : L2.St} {H : Hp} {Q : Bool → Hp → Prop} (Pv : V → Hp → Prop) (h : ∀ Qx : VK, (∀ x H3, Pv x H3 → Qx x H3) → tl σ H Qx)
    (hk : ∀ x H3, Pv x H3 → tNot (tB (tCall sp [] E0 (tCons (tC x) ta))) σ H3 Q) : tNot (tB (tCall sp [] E0 (tCons tl ta))) σ H Q := h _ hk
theorem lift_call {tl : TE} {ta : TA} {sp : Sp} {σ : L2.St} {H : Hp} {Q : VK} (Pv : V → Hp → Prop) (h : ∀ Qx : VK, (∀ x H3, Pv x H3 → Qx x H3) → tl σ H Qx)
    (hk : ∀ x H3, Pv x H3 → tCall sp [] E0 (tCons (tC x) ta) σ H3 Q) : tCall sp [] E0 (tCons tl ta) σ H Q := h _ hk
/-- a told pair zs, and the pair at d: like ones -/
def PairZ (d : V) (zs : List V) (Hx : Hp) : Prop := ∃ (pd : Addr) (nm : Str) (u w : V), d = .ref pd ∧ Hx pd = some (.tup [.str nm, w]) ∧ zs = [.str nm, u] ∧ SameD 8 Hx u w ∧ DeepN 8 Hx u ∧ DeepN 8 Hx w ∧ nm.length ≤ 1000000
theorem PairZ.same [Tabl] {d : V} {zs : List V} {H H' : Hp} (h : PairZ d zs H) (s : Same H H') : PairZ d zs H' := by
  obtain ⟨pd, nm, u, w, e, hp, ez, sm, du, dw, l⟩ := h
  exact ⟨pd, nm, u, w, e, s _ _ hp, ez, sm.keep s, du.same s, dw.same s, l⟩
theorem PairZ.fit {d : V} {zs : List V} {H : Hp} {t : Addr} (h : PairZ d zs H) (ht : H t = some (.tup zs)) : SameD 9 H (.ref t) d ∧ DeepN 9 H (.ref t) ∧ DeepN 9 H d := by
  obtain ⟨pd, nm, u, w, rfl, hp, rfl, sm, du, dw, l⟩ := h
  have row : ∀ {q : V}, DeepN 8 H q → ∀ y ∈ [V.str nm, q], DeepN 8 H y := fun dq y m => by
    rcases List.mem_cons.mp m with m | m
    · subst m
      exact .inl ⟨rfl, fun z e => by cases e; exact l⟩
    · rw [List.mem_singleton.mp m]
      exact dq
  refine ⟨.inr ⟨t, pd, _, _, rfl, rfl, .inl ⟨ht, hp⟩, rfl, by show 2 ≤ 1000000; decide, fun i x y ex ey => ?_⟩, .inr ⟨t, _, rfl, .inr ht, by show 2 ≤ 1000000; decide, row du⟩, .inr ⟨pd, _, rfl, .inr hp, by show 2 ≤ 1000000; decide, row dw⟩⟩
  match i, ex, ey with
  | 0, ex, ey =>
    cases ex
    cases ey
    exact .inl ⟨rfl, rfl⟩
  | 1, ex, ey =>
    cases ex
    cases ey
    exact sm
theorem SameD.symm {H : Hp} : ∀ {n : Nat} {x y : V}, SameD n H x y → SameD n H y x
  | 0, x, y, h => h.elim (fun q => .inl ⟨q.1.symm, by rw [q.1]; exact q.2⟩) fun ⟨p, q, xs, ys, e1, e2, o, l, m, r⟩ => .inr ⟨q, p, ys, xs, e2, e1, o.elim (fun z => .inl ⟨z.2, z.1⟩) (fun z => .inr ⟨z.2, z.1⟩), l.symm, by omega, fun i a b ea eb => (r i b a eb ea).elim⟩
  | n + 1, x, y, h => h.elim (fun q => .inl ⟨q.1.symm, by rw [q.1]; exact q.2⟩) fun ⟨p, q, xs, ys, e1, e2, o, l, m, r⟩ => .inr ⟨q, p, ys, xs, e2, e1, o.elim (fun z => .inl ⟨z.2, z.1⟩) (fun z => .inr ⟨z.2, z.1⟩), l.symm, by omega, fun i a b ea eb => SameD.symm (r i b a eb ea)⟩
end Lb

namespace GQ
open PySem PySem.Spec PyProof.Rows L2 Lb
variable [Tabl] {X : Cx}
theorem elt_or {P : Addr} {h1 : Heap} {scope : Scope} {x : Str} {e1 e2 : Expr} {pos : Pos} {p1 p2 : Nat → Bool} (a : Elt X P h1 scope x e1 p1) (b : Elt X P h1 scope x e2 p2) : Elt X P h1 scope x (.BoolOp .Or [e1, e2] pos) (fun c => p1 c || p2 c) := by
  intro env A' E' c t r m hs hcl hg hA hn hx keep
  refine wpAny_Or2 (thn (a env A' E' c t r m hs hcl hg hA hn hx keep) fun v r1 ⟨e, k⟩ => ?_)
  subst e
  refine wpAny_truthy_bool ?_
  cases hp : p1 c with
  | true => exact ⟨by show Value.bool true = Value.bool (p1 c || p2 c); rw [hp, Bool.true_or], k⟩
  | false =>
    obtain ⟨h', tk, rfl, kk⟩ := k
    refine thn (b env A' E' c t _ m hs hcl hg hA (hn.at fun o e => kk _ o e) hx (fun b u n e => kk _ _ (keep b u n e))) fun v r2 ⟨e, k2⟩ => ?_
    subst e
    obtain ⟨h2, tk2, rfl, kk2⟩ := k2
    exact ⟨by show Value.bool (p2 c) = Value.bool (p1 c || p2 c); rw [hp, Bool.false_or], h2, tk2, rfl, fun b o e => kk2 _ _ (kk _ _ e)⟩
def tAllG2 (z u : Str) (te : TE) : TE := fun σ H Q => te σ H fun v H1 => ∃ a : Str, v = .str a ∧ Lb.Good H1 ∧ ∀ H2, Lb.Same H1 H2 → Q (.bl (a.cps.toList.all fun c => decide (c ∈ z.cps.toList) || decide (c ∈ u.cps.toList))) H2
def CnGl2 (z u : Str) : L2.St → Hp → (Nat → Bool) → Prop := fun _ _ pb => pb = fun c => decide (c ∈ z.cps.toList) || decide (c ∈ u.cps.toList)
theorem pe_allG2 {c P : Addr} {iter : Expr} {x y yy : Str} {px p pos gpos p1 p2 p3 p4 p5 p6 p7 : Pos} {scope : Scope} {te : TE} {k : Nat} {z u : Str} {tz tu : Tok}
    (hr : Room k X.A) (hm : X.mg "all" = none) (hmy : X.mg y = some (.str z tz)) (hmyy : X.mg yy = some (.str u tu)) (TB : LamX.TabB X.base X.mg c P) (hmem : (P, X.env.qual ++ "<genexpr>") ∈ Tabl.T) (hcode : X.env.code = .ref c) (B : GenB X.env.scope scope x) (hi : PE X iter te)
    (hg : Gl X "all" := by rfl) (hy : scope.names.lookup y = some .globalImplicit := by rfl) (hyy : scope.names.lookup yy = some .globalImplicit := by rfl) (hs : ∀ v, genFold iter X.env v = pure v := by intro _; rfl) (hd : (x == ("__debug__" : Str)) = false := by decide) (hd' : (y == ("__debug__" : Str)) = false := by decide) (hd2 : (yy == ("__debug__" : Str)) = false := by decide)
    (he : starEach [.GeneratorExp (.BoolOp .Or [.Compare (.Name x p1) [.In] [.Name y p2] p3, .Compare (.Name x p4) [.In] [.Name yy p5] p6] p7) [⟨.Name x px, iter, [], 0⟩] scope gpos] X.env = (false, eval (.GeneratorExp (.BoolOp .Or [.Compare (.Name x p1) [.In] [.Name y p2] p3, .Compare (.Name x p4) [.In] [.Name yy p5] p6] p7) [⟨.Name x px, iter, [], 0⟩] scope gpos) X.env) :: starEach [] X.env := by rfl) :
    PE X (.Call (.Name "all" p) [.GeneratorExp (.BoolOp .Or [.Compare (.Name x p1) [.In] [.Name y p2] p3, .Compare (.Name x p4) [.In] [.Name yy p5] p6] p7) [⟨.Name x px, iter, [], 0⟩] scope gpos] [] pos) (tAllG2 z u te) := by
  refine ⟨fun pins s σ H Q I h => ?_⟩
  have S := B.S I.ok
  refine (pe_all (Cn := CnGl2 z u) hr hg hm TB hmem hcode S (pe_weak hi) (fun pins σ H1 s1 pb I1 _ cn => ?_) hs (he := he)).run pins s σ H Q I ⟨_, h, fun v H1 q => ?_⟩
  · cases cn
    exact elt_or (elt_glob S hy hmy TB.gP I1 rfl hd hd') (elt_glob S hyy hmyy TB.gP I1 rfl hd hd2)
  · obtain ⟨a, e1, e2, e3⟩ := q
    exact ⟨a, _, e1, e2, rfl, e3⟩
end GQ

namespace Lb
open PySem PySem.Spec PyProof.Rows L2
/-! ### lists of texts -/
theorem deepN_str {H : Hp} : ∀ {n : Nat} {x : Str}, x.length ≤ 1000000 → DeepN (n + 1) H (.str x) := fun {n x} l => .inl ⟨rfl, fun y e => by cases e; exact l⟩
theorem deepN_strs {H : Hp} {p : Addr} {xs : List Str} (e : H p = some (.lst (xs.map V.str))) (l : xs.length ≤ 1000000) (t : ∀ x ∈ xs, x.length ≤ 1000000) : DeepN 9 H (.ref p) :=
  .inr ⟨p, _, rfl, .inl e, by rw [List.length_map]; exact l, fun v hv => by
    obtain ⟨x, hx, rfl⟩ := List.mem_map.mp hv
    exact deepN_str (t x hx)⟩
theorem same_str {H : Hp} {n : Nat} {x : Str} : SameD (n + 1) H (.str x) (.str x) := .inl ⟨rfl, rfl⟩
theorem same_strs {H : Hp} {p q : Addr} {xs : List Str} (e : H p = some (.lst (xs.map V.str))) (e' : H q = some (.lst (xs.map V.str))) (l : xs.length ≤ 1000000) : SameD 9 H (.ref p) (.ref q) :=
  .inr ⟨p, q, _, _, rfl, rfl, .inr ⟨e, e'⟩, rfl, by rw [List.length_map]; exact l, fun i x y hx hy => by
    rw [hx] at hy
    cases hy
    obtain ⟨z, _, rfl⟩ := List.mem_map.mp (List.mem_of_getElem? hx)
    exact same_str⟩
theorem map_str_inj : ∀ {xs ys : List Str}, xs.map V.str = ys.map V.str → xs = ys
  | [], [], _ => rfl
  | [], _ :: _, h => by cases h
  | _ :: _, [], h => by cases h
  | x :: xs, y :: ys, h => by
    rw [List.map_cons, List.map_cons] at h
    injection h with h1 h2
    rw [V.str.inj h1, map_str_inj h2]
open SetQ
theorem bef_irrefl {x : Str} (h : Bef x x) : False := by
  rcases h with h | h
  · omega
  · exact List.lt_irrefl _ h.2
theorem bef_kLt {x y : Str} : MinQ.kLt x y = true ↔ Bef x y := MinQ.kLt_true
theorem bef_trans {x y z : Str} (h : Bef x y) (k : Bef y z) : Bef x z := bef_kLt.mp (MinQ.kLt_trans (bef_kLt.mpr h) (bef_kLt.mpr k))
theorem bef_nodup {ws : List Str} (h : ws.Pairwise Bef) : ws.Nodup := h.imp fun {a b} q e => by
  subst e
  exact bef_irrefl q
theorem erase_map {α β : Type} (f : α → β) : ∀ (l : List α) (i : Nat), (l.map f).eraseIdx i = (l.eraseIdx i).map f
  | [], _ => rfl
  | x :: l, 0 => rfl
  | x :: l, i + 1 => by
    show f x :: (l.map f).eraseIdx i = _
    rw [erase_map f l i]
    rfl
theorem erase_perm {α : Type} : ∀ (l : List α) (i : Nat) (h : i < l.length), (l[i] :: l.eraseIdx i).Perm l
  | x :: l, 0, _ => .refl _
  | x :: l, i + 1, h => (List.Perm.swap x _ _).trans ((erase_perm l i (Nat.lt_of_succ_lt_succ h)).cons x)
theorem call_isiKK {X : Cx} (K : PySem.W.Frag) (h : X.K = K) : CallR X (.builtin "isinstance") (rIsi K) := by
  subst h
  exact call_isi
theorem pick_all {α : Type} (xs : List α) : ((List.range xs.length).filterMap fun j => xs[j]?) = xs := by
  induction xs with
  | nil => rfl
  | cons x xs ih =>
    rw [List.length_cons, List.range_succ_eq_map, List.filterMap_cons]
    show x :: ((List.range xs.length).map Nat.succ).filterMap (fun j => (x :: xs)[j]?) = x :: xs
    rw [List.filterMap_map]
    exact congrArg (List.cons x) ih
theorem in_strs {x : Str} {xs : List Str} (h : x ∈ xs) : inV (.str x) (xs.map V.str) = true := List.any_eq_true.mpr ⟨.str x, List.mem_map_of_mem h, by simp [eqV]⟩
theorem flat_strs (xs : List Str) : (xs.map V.str).all flatV = true := List.all_eq_true.mpr fun v hv => by
  obtain ⟨x, _, rfl⟩ := List.mem_map.mp hv
  rfl
theorem atI_neg1 {α : Type} {xs : List α} {v : α} (h : xs[xs.length - 1]? = some v) : atI xs (-1) = some v := by
  have ne : xs ≠ [] := fun e => by rw [e] at h; cases h
  have e := List.dropLast_concat_getLast ne
  have l : xs.getLast ne = v := by
    rw [List.getLast_eq_getElem]
    exact Option.some.inj ((List.getElem?_eq_getElem _).symm.trans h)
  rw [← e, l]
  exact atI_last _ _
theorem asg_go {x : V} {i : Nat} {S : TS} {D : Ends} {σ : L2.St} {H : Hp} (h : S D (σ.set i (some x)) H) : tSeq (tAsg (tC x) (gName i)) S D σ H := h
def strOf : V → Str
  | .str x => x
  | _ => ⟨#[]⟩
theorem perm_strs {ys : List V} {xs : List Str} (h : ys.Perm (xs.map V.str)) : ∃ ws : List Str, ys = ws.map V.str ∧ ws.Perm xs := by
  refine ⟨ys.map strOf, ?_, ?_⟩
  · rw [List.map_map]
    refine (List.map_id ys).symm.trans (List.map_congr_left fun y hy => ?_)
    obtain ⟨x, _, rfl⟩ := List.mem_map.mp (h.mem_iff.mp hy)
    rfl
  · have q := h.map strOf
    rw [List.map_map] at q
    have e : xs.map (strOf ∘ V.str) = xs := (List.map_congr_left fun x _ => rfl).trans (List.map_id xs)
    rw [e] at q
    exact q
/-- two rows in order with the same words are one row -/
theorem bef_unique : ∀ {us ws : List Str}, us.Pairwise Bef → ws.Pairwise Bef → (∀ y, y ∈ us ↔ y ∈ ws) → us = ws
  | [], [], _, _, _ => rfl
  | [], w :: ws, _, _, m => absurd ((m w).mpr List.mem_cons_self) List.not_mem_nil
  | u :: us, [], _, _, m => absurd ((m u).mp List.mem_cons_self) List.not_mem_nil
  | u :: us, w :: ws, hu, hw, m => by
    obtain ⟨u1, u2⟩ := List.pairwise_cons.mp hu
    obtain ⟨w1, w2⟩ := List.pairwise_cons.mp hw
    have e : u = w := by
      rcases List.mem_cons.mp ((m u).mp List.mem_cons_self) with q | q
      · exact q
      · rcases List.mem_cons.mp ((m w).mpr List.mem_cons_self) with k | k
        · exact k.symm
        · exact (bef_irrefl (bef_trans (w1 u q) (u1 w k))).elim
    subst e
    have ih := bef_unique u2 w2 fun y => ⟨fun h => ?_, fun h => ?_⟩
    · rw [ih]
    · rcases List.mem_cons.mp ((m y).mp (List.mem_cons_of_mem _ h)) with q | q
      · rw [q] at h
        exact (bef_irrefl (u1 _ h)).elim
      · exact q
    · rcases List.mem_cons.mp ((m y).mpr (List.mem_cons_of_mem _ h)) with q | q
      · rw [q] at h
        exact (bef_irrefl (w1 _ h)).elim
      · exact q
/-- the least of a row in order stands first -/
theorem head_least {ws : List Str} {x w : Str} (h : ws.Pairwise Bef) (mx : x ∈ ws) (hw : ws[0]? = some w) (least : ∀ y ∈ ws, MinQ.kLt y x = false) : x = w := by
  cases ws with
  | nil => cases mx
  | cons u us =>
    have e0 : u = w := Option.some.inj hw
    subst e0
    rcases List.mem_cons.mp mx with e | e
    · exact e
    · have b := (List.pairwise_cons.mp h).1 x e
      have := least u List.mem_cons_self
      rw [bef_kLt.mpr b] at this
      cases this
end Lb

namespace Lb
open PySem PySem.Spec PyProof.Rows L2
/-! ### entries of machines -/
/-- the items of a tuple are plain, if v is one -/
def Inner (H : Hp) (v : V) : Prop := ∀ t xs, v = .ref t → H t = some (.tup xs) → ∀ y ∈ xs, Shal H y
theorem Inner.same [Tabl] {H H' : Hp} {v : V} (sh : Shal H v) (h : Inner H v) (s : Same H H') : Inner H' v := by
  intro t xs e ht y hy
  subst e
  rcases sh with ⟨x, e, _⟩ | e | ⟨b, e⟩ | ⟨i, e⟩ | ⟨p, ys, e, o⟩
  · cases e
  · cases e
  · cases e
  · cases e
  · cases e
    rcases o with o | o
    · rw [s _ _ o] at ht
      cases ht
    · rw [s _ _ o] at ht
      cases ht
      exact (h t xs rfl o y hy).same s
/-- v is a pair of a state and a word, an arc -/
def PairV (H : Hp) (z : Str) (n : Int) (v : V) : Prop := ∃ t i x, v = .ref t ∧ H t = some (.tup [.int i, .str x]) ∧ 0 ≤ i ∧ i ≤ n - 1 ∧ Over z x ∧ (x.length : Int) ≤ 400
def ArcV (H : Hp) (r z : Str) (n : Int) (v : V) : Prop := ∃ t i l x j, v = .ref t ∧ H t = some (.tup [.int i, .str l, .str x, .int j]) ∧ 0 ≤ i ∧ i ≤ n - 1 ∧ l.length = 1 ∧ Over r l ∧ Over z x ∧ (x.length : Int) ≤ 400 ∧ 0 ≤ j ∧ j ≤ n - 1
theorem sign_of {x : Str} (h : x.length = 1) : ∃ c, x = (⟨#[c]⟩ : Str) := ⟨_, one_sign h⟩
theorem any_1st {t : Value} {a b : Value} {K : PySem.W.Frag} (h : PySem.W.kitOne K t a = some true) : PySem.W.kitAny K t [a, b] = some true :=
  kitAny_cons h (fun z => by cases z) (fun _ => rfl)
theorem any_2nd {t : Value} {a b : Value} {K : PySem.W.Frag} (h : PySem.W.kitOne K t a = some false) (k : PySem.W.kitOne K t b = some true) : PySem.W.kitAny K t [a, b] = some true :=
  kitAny_cons h (fun _ => kitAny_cons k (fun z => (by cases z)) (fun _ => rfl)) (fun z => by cases z)
/-! ### rows of entries -/
/-- the values of xs are tuples that hold the entries es -/
def EntL {α : Type} (img : α → List V) (H : Hp) (xs : List V) (es : List α) : Prop := Paired (fun v e => ∃ t, v = .ref t ∧ H t = some (.tup (img e))) xs es
theorem EntL.same [Tabl] {α : Type} {img : α → List V} {H H' : Hp} {xs : List V} {es : List α} (h : EntL img H xs es) (s : Same H H') : EntL img H' xs es := Paired.mapP h fun _ _ ⟨t, e, q⟩ => ⟨t, e, s _ _ q⟩
theorem EntL.len {α : Type} {img : α → List V} {H : Hp} {xs : List V} {es : List α} (h : EntL img H xs es) : xs.length = es.length := h.length
theorem paired_get {α β : Type} {F : α → β → Prop} {xs : List α} {es : List β} (h : Paired F xs es) : ∀ {i : Nat} {x : α}, xs[i]? = some x → ∃ e, es[i]? = some e ∧ F x e := by
  induction h with
  | nil => intro i x e; cases e
  | cons f _ ih =>
    intro i x e
    cases i with
    | zero => cases e; exact ⟨_, rfl, f⟩
    | succ i => exact ih e
theorem paired_get2 {α β : Type} {F : α → β → Prop} {xs : List α} {es : List β} (h : Paired F xs es) : ∀ {i : Nat} {e : β}, es[i]? = some e → ∃ x, xs[i]? = some x ∧ F x e := by
  induction h with
  | nil => intro i x e; cases e
  | cons f _ ih =>
    intro i x e
    cases i with
    | zero => cases e; exact ⟨_, rfl, f⟩
    | succ i => exact ih e
theorem EntL.get {α : Type} {img : α → List V} {H : Hp} {xs : List V} {es : List α} (h : EntL img H xs es) {i : Nat} {x : V} (hx : xs[i]? = some x) : ∃ e t, es[i]? = some e ∧ x = .ref t ∧ H t = some (.tup (img e)) := by
  obtain ⟨e, he, t, et, ht⟩ := paired_get h hx
  exact ⟨e, t, he, et, ht⟩
theorem EntL.of {α : Type} {img : α → List V} {H : Hp} : ∀ {xs : List V} {es : List α}, xs.length = es.length → (∀ (i : Nat) (x : V) (e : α), xs[i]? = some x → es[i]? = some e → ∃ t, x = .ref t ∧ H t = some (.tup (img e))) → EntL img H xs es
  | [], [], _, _ => .nil
  | x :: xs, e :: es, l, h => .cons (h 0 x e rfl rfl) (EntL.of (by simpa using l) fun i y f a b => h (i + 1) y f a b)
  | [], _ :: _, l, _ => by cases l
  | _ :: _, [], l, _ => by cases l
/-- each once, in the order of their first places -/
def addNew {α : Type} [DecidableEq α] (ds : List α) (e : α) : List α := if e ∈ ds then ds else ds ++ [e]
def onces {α : Type} [DecidableEq α] (es : List α) : List α := es.foldl addNew []
theorem onces_snoc {α : Type} [DecidableEq α] (es : List α) (e : α) : onces (es ++ [e]) = addNew (onces es) e := by
  unfold onces
  rw [List.foldl_append]
  rfl
theorem onces_mem {α : Type} [DecidableEq α] (es : List α) : ∀ e, e ∈ onces es ↔ e ∈ es := by
  have key : ∀ (es ds : List α) e, e ∈ es.foldl addNew ds ↔ e ∈ ds ∨ e ∈ es := by
    intro es
    induction es with
    | nil => intro ds e; simp
    | cons x es ih =>
      intro ds e
      rw [List.foldl_cons, ih, List.mem_cons]
      unfold addNew
      by_cases h : x ∈ ds
      · rw [if_pos h]
        constructor
        · rintro (m | m)
          · exact .inl m
          · exact .inr (.inr m)
        · rintro (m | rfl | m)
          · exact .inl m
          · exact .inl h
          · exact .inr m
      · rw [if_neg h, List.mem_append, List.mem_singleton]
        constructor
        · rintro ((m | m) | m)
          · exact .inl m
          · exact .inr (.inl m)
          · exact .inr (.inr m)
        · rintro (m | m | m)
          · exact .inl (.inl m)
          · exact .inl (.inr m)
          · exact .inr m
  intro e
  rw [onces, key]
  simp
theorem onces_nodup {α : Type} [DecidableEq α] (es : List α) : (onces es).Nodup := by
  have key : ∀ (es ds : List α), ds.Nodup → (es.foldl addNew ds).Nodup := by
    intro es
    induction es with
    | nil => intro ds h; exact h
    | cons x es ih =>
      intro ds h
      refine ih _ ?_
      unfold addNew
      by_cases m : x ∈ ds
      · rw [if_pos m]
        exact h
      · rw [if_neg m]
        exact List.nodup_append.mpr ⟨h, List.pairwise_singleton .., fun a ha b hb e => m (by rw [List.mem_singleton.mp hb] at e; rw [← e]; exact ha)⟩
  exact key es [] List.nodup_nil
theorem onces_len {α : Type} [DecidableEq α] (es : List α) : (onces es).length ≤ es.length := by
  have key : ∀ (es ds : List α), (es.foldl addNew ds).length ≤ ds.length + es.length := by
    intro es
    induction es with
    | nil => intro ds; exact Nat.le_refl _
    | cons x es ih =>
      intro ds
      have h := ih (addNew ds x)
      have : (addNew ds x).length ≤ ds.length + 1 := by
        unfold addNew
        split
        · omega
        · rw [List.length_append]
          exact Nat.le_refl _
      rw [List.foldl_cons, List.length_cons]
      omega
  have h := key es []
  rw [List.length_nil, Nat.zero_add] at h
  exact h
/-- the dict whose keys are the entries ds -/
def onesD {α : Type} (pk : α → List L2.Key) (ds : List α) : List (List L2.Key × V) := ds.map fun e => (pk e, V.bl true)
theorem put_ones {α : Type} [DecidableEq α] {pk : α → List L2.Key} (inj : ∀ a b, pk a = pk b → a = b) (ds : List α) (e : α) : putK (onesD pk ds) (pk e) (.bl true) = onesD pk (addNew ds e) := by
  unfold putK addNew onesD
  by_cases m : e ∈ ds
  · have any : ((ds.map fun e => (pk e, V.bl true)).any fun kv => decide (kv.1 = pk e)) = true := List.any_eq_true.mpr ⟨(pk e, .bl true), List.mem_map_of_mem (f := fun e => (pk e, V.bl true)) m, decide_eq_true rfl⟩
    rw [if_pos m, if_pos any, List.map_map]
    refine List.map_congr_left fun a _ => ?_
    show (if pk a = pk e then (pk a, V.bl true) else (pk a, V.bl true)) = _
    rw [ite_self]
  · rw [if_neg m, if_neg, List.map_append]
    · rfl
    · intro h
      obtain ⟨kv, hk, q⟩ := List.any_eq_true.mp h
      obtain ⟨a, ha, rfl⟩ := List.mem_map.mp hk
      exact m (inj _ _ (of_decide_eq_true q) ▸ ha)
theorem ents_keys {α : Type} {pk : α → List L2.Key} {H : Hp} {ds : List α} {bs : List Addr} (h : IsKeys H (onesD pk ds) bs) : EntL (fun e => (pk e).map kV) H (bs.map V.ref) ds := by
  refine EntL.of (by rw [List.length_map, ← h.length]; exact (List.length_map ..)) fun i x e hx he => ?_
  rw [List.getElem?_map] at hx
  cases eb : bs[i]? with
  | none => rw [eb] at hx; cases hx
  | some b =>
    rw [eb] at hx
    cases hx
    obtain ⟨kv, hk, q⟩ := paired_get2 h eb
    have : (onesD pk ds)[i]? = some (pk e, .bl true) := by
      unfold onesD
      rw [List.getElem?_map, he]
      rfl
    rw [this] at hk
    cases hk
    exact ⟨b, rfl, q⟩
/-- sorted by a key: strictly, if each stands once -/
theorem sorted_strict {α : Type} {dec : V → α} {enc : α → PyData} {lt : α → α → Prop} (hle : ∀ e f, (!PySem.W.dataLt (enc f) (enc e)) = true → e ≠ f → lt e f) (xs : List V) (nd : (xs.map dec).Nodup) :
    ((xs.mergeSort (PySem.W.dataLe false fun v => enc (dec v))).map dec).Pairwise lt := by
  have nd2 : ((xs.mergeSort (PySem.W.dataLe false fun v => enc (dec v))).map dec).Nodup := ((List.mergeSort_perm xs _).map dec).nodup_iff.mpr nd
  have pw := EnS.sort_pair (fun v => enc (dec v)) xs
  rw [List.pairwise_map]
  have ne := List.pairwise_map.mp nd2
  exact (pw.and ne).imp fun ⟨a, b⟩ => hle _ _ a b
theorem EntL.perm {α : Type} {img : α → List V} {dec : V → α} {H : Hp} {xs ys : List V} {es : List α} (h : EntL img H xs es) (hd : ∀ t e, H t = some (.tup (img e)) → dec (.ref t) = e) (p : ys.Perm xs) : es = xs.map dec ∧ EntL img H ys (ys.map dec) := by
  have e1 : es = xs.map dec := by
    refine List.ext_getElem? fun i => ?_
    rw [List.getElem?_map]
    cases hx : xs[i]? with
    | none =>
      show es[i]? = none
      rw [List.getElem?_eq_none_iff, ← h.len]
      exact List.getElem?_eq_none_iff.mp hx
    | some x =>
      obtain ⟨e, t, he, rfl, ht⟩ := h.get hx
      rw [he]
      exact congrArg some (hd t e ht).symm
  refine ⟨e1, EntL.of (by rw [List.length_map]) fun i y e hy he => ?_⟩
  rw [List.getElem?_map, hy] at he
  cases he
  obtain ⟨j, hj⟩ := List.getElem?_of_mem (p.mem_iff.mp (List.mem_of_getElem? hy))
  obtain ⟨e, t, _, rfl, ht⟩ := h.get hj
  exact ⟨t, rfl, by rw [hd t e ht]; exact ht⟩
/-- pairs -/
def pimg (e : Int × Str) : List V := [.int e.1, .str e.2]
def ppk (e : Int × Str) : List L2.Key := [.inl e.1, .inr e.2]
theorem ppk_inj (a b : Int × Str) (h : ppk a = ppk b) : a = b := by
  unfold ppk at h
  injection h with h1 h2
  injection h2 with h2 _
  exact Prod.ext (Sum.inl.inj h1) (Sum.inr.inj h2)
def pdec (H : Hp) : V → Int × Str
  | .ref t => match H t with
    | some (.tup [.int i, .str x]) => (i, x)
    | _ => (0, Str.empty)
  | _ => (0, Str.empty)
theorem pdec_at {H : Hp} (t : Addr) (e : Int × Str) (h : H t = some (.tup (pimg e))) : pdec H (.ref t) = e := by
  show (match H t with | some (.tup [.int i, .str x]) => (i, x) | _ => (0, Str.empty)) = e
  rw [h]
  rfl
def relP (H : Hp) (v : V) (d : PyData) : Prop := ∃ (t : Addr) (i : Int) (x : Str), v = .ref t ∧ H t = some (.tup [.int i, .str x]) ∧ x.length ≤ 1000000 ∧ d = EnS.pkey i x
theorem relP_same [Tabl] (H H' : Hp) (x : V) (d : PyData) (s : Same H H') (h : relP H x d) : relP H' x d := by
  obtain ⟨t, i, x, e, ht, l, ed⟩ := h
  exact ⟨t, i, x, e, s _ _ ht, l, ed⟩
theorem dp_wkey {K : PySem.W.Frag} {H : Hp} {p : Addr} {x : Str} (h : H p = some (.tup [.int (x.length : Nat), .str x])) : Dp K H (.ref p) (EnS.wkey x) := .tup (.inl (.inl h)) (.cons (.int _) (.cons (.str _) .nil))
theorem dp_pkey {K : PySem.W.Frag} {H : Hp} {p p' : Addr} {i : Int} {x : Str} (h : H p = some (.tup [.int i, .ref p'])) (h' : H p' = some (.tup [.int (x.length : Nat), .str x])) : Dp K H (.ref p) (EnS.pkey i x) :=
  .tup (.inl (.inl h)) (.cons (.int _) (.cons (dp_wkey h') .nil))
/-- arcs -/
def aimg (e : EnS.Arc) : List V := [.int e.1, .str e.2.1, .str e.2.2.1, .int e.2.2.2]
def apk (e : EnS.Arc) : List L2.Key := [.inl e.1, .inr e.2.1, .inr e.2.2.1, .inl e.2.2.2]
theorem apk_inj (a b : EnS.Arc) (h : apk a = apk b) : a = b := by
  unfold apk at h
  injection h with h1 h2
  injection h2 with h2 h3
  injection h3 with h3 h4
  injection h4 with h4 _
  exact Prod.ext (Sum.inl.inj h1) (Prod.ext (Sum.inr.inj h2) (Prod.ext (Sum.inr.inj h3) (Sum.inl.inj h4)))
def adec (H : Hp) : V → EnS.Arc
  | .ref t => match H t with
    | some (.tup [.int i, .str l, .str x, .int j]) => (i, l, x, j)
    | _ => (0, Str.empty, Str.empty, 0)
  | _ => (0, Str.empty, Str.empty, 0)
theorem adec_at {H : Hp} (t : Addr) (e : EnS.Arc) (h : H t = some (.tup (aimg e))) : adec H (.ref t) = e := by
  show (match H t with | some (.tup [.int i, .str l, .str x, .int j]) => (i, l, x, j) | _ => (0, Str.empty, Str.empty, 0)) = e
  rw [h]
  rfl
def akeyE (e : EnS.Arc) : PyData := EnS.akey e.1 e.2.1 e.2.2.1 e.2.2.2
def relA (H : Hp) (v : V) (d : PyData) : Prop := ∃ (t : Addr) (i : Int) (l x : Str) (j : Int), v = .ref t ∧ H t = some (.tup [.int i, .str l, .str x, .int j]) ∧ x.length ≤ 1000000 ∧ d = EnS.akey i l x j
theorem relA_same [Tabl] (H H' : Hp) (x : V) (d : PyData) (s : Same H H') (h : relA H x d) : relA H' x d := by
  obtain ⟨t, i, l, x, j, e, ht, le, ed⟩ := h
  exact ⟨t, i, l, x, j, e, s _ _ ht, le, ed⟩
theorem dp_akey {K : PySem.W.Frag} {H : Hp} {p p' : Addr} {i j : Int} {l x : Str} (h : H p = some (.tup [.int i, .str l, .ref p', .int j])) (h' : H p' = some (.tup [.int (x.length : Nat), .str x])) : Dp K H (.ref p) (EnS.akey i l x j) :=
  .tup (.inl (.inl h)) (.cons (.int _) (.cons (.str _) (.cons (dp_wkey h') (.cons (.int _) .nil))))
/-- {e: True for e in entries} -/
theorem dct_ents [Tabl] {α : Type} [DecidableEq α] {pk : α → List L2.Key} (inj : ∀ a b, pk a = pk b → a = b) {K : PySem.W.Frag} {i j : Nat} {σ : L2.St} {H : Hp} {p : Addr} {xs : List V} {es : List α} {Q : VK} {tt : TT} {tv : TE}
    (hj : σ[j]? = some (some (.ref p))) (hw : ∀ x, wipe ((wipe σ [i]).set i (some x)) [i] = wipe σ [i]) (hg : ∀ x, ((wipe σ [i]).set i (some x))[i]? = some (some x)) (htt : ∀ σ H Q, Q true H → tt σ H Q) (htv : ∀ σ H Q, Q (.bl true) H → tv σ H Q)
    (hp : SqL K H p xs ∨ SqT K H p xs) (le : xs.length ≤ 1000) (ents : EntL (fun e => (pk e).map kV) H xs es) (q : ∀ (D : Addr) (H' : Hp), Same H H' → H D = none → H' D = some (.dT (onesD pk (onces es))) → Q (.ref D) H') :
    DcT.tDcT (EnT.iSeq K (tVar j)) (gName i) tt (tVar i) tv [i] σ H Q := by
  have lsz : ∀ k, (onesD pk (onces (es.take k))).length < sizeLine := fun k => by
    have h1 := onces_len (es.take k)
    have h2 : (es.take k).length ≤ es.length := by rw [List.length_take]; exact Nat.min_le_right ..
    have h3 : xs.length = es.length := ents.len
    have h4 : (onesD pk (onces (es.take k))).length = (onces (es.take k)).length := List.length_map ..
    rw [h4]
    exact Nat.lt_of_le_of_lt (by omega : _ ≤ 1000) (by decide)
  have body : ∀ (J : It), (∀ i H', Same H H' → i < xs.length → J.go i H') → (∀ H', Same H H' → J.stop xs.length H') → (∀ i H' x H'', Same H H' → J.yld i H' x H'' → H'' = H' ∧ xs[i]? = some x) →
      ∀ D, H D = none → ∃ W : Nat → Nat → Hp → Prop, (∃ m, W 0 m (upd H D (.dT []))) ∧ ∀ k m H, W k m H → (J.stop k H ∧ Q (.ref D) H) ∨ (J.go k H ∧ ∃ Nx : Hp → Prop, (∀ H', Nx H' → ∃ m', m' < m ∧ W (k + 1) m' H') ∧
        ∀ x H', J.yld k H x H' → gName i x (wipe σ [i]) H' fun σ2 H2 => wipe σ2 [i] = wipe σ [i] ∧ tt σ2 H2 fun b H3 => if b = true then tVar i σ2 H3 fun y H4 => tv σ2 H4 fun z H5 => ∃ H6, DPut H5 D y z H6 ∧ Nx H6 else Nx H3) := by
    intro J jg js jy D nD
    refine EnT.dc_any (n := xs.length) (fun k H' => ∃ H0, Same H H0 ∧ H' = H0 ∧ H' D = some (.dT (onesD pk (onces (es.take k))))) ⟨_, same_new nD, rfl, by rw [List.take_zero]; exact upd_same⟩ (fun k H' lt ⟨H0, s0, e0, hD⟩ => ?_) (fun H' ⟨H0, s0, e0, hD⟩ => ?_)
    · subst e0
      refine ⟨jg k H' s0 lt, fun x H'' y => ?_⟩
      obtain ⟨rfl, hx⟩ := jy k H' x H'' s0 y
      obtain ⟨e, t, he, rfl, ht⟩ := ents.get hx
      refine ⟨hw _, htt _ _ _ (iteT ⟨_, hg _, htv _ _ _ ⟨_, DPut.t hD (s0 _ _ ht) (lsz k), _, ?_, rfl, ?_⟩⟩)⟩
      · exact Same.grown (.refl H) nD s0 hD
      · rw [upd_same, put_ones inj, ← onces_snoc, List.take_add_one, he]
        rfl
    · subst e0
      refine ⟨js H' s0, q D H' s0 nD ?_⟩
      rw [hD, ents.len, List.take_length]
  refine ⟨_, hj, p, xs, rfl, ?_⟩
  rcases hp with hp | hp
  · refine .inl ⟨hp, body _ (fun k H' s lt => ⟨xs, _, SkF.sqL_same s hp, List.getElem?_eq_getElem lt⟩) (fun H' s => ⟨xs, SkF.sqL_same s hp, Nat.le_refl _⟩) fun k H' x H'' s y => ⟨y.1, y.2 xs (SkF.sqL_same s hp)⟩⟩
  · refine .inr ⟨hp, body _ (fun k H' s lt => ⟨xs, _, SkF.sqT_same s hp, List.getElem?_eq_getElem lt⟩) (fun H' s => ⟨xs, SkF.sqT_same s hp, Nat.le_refl _⟩) fun k H' x H'' s y => ⟨y.1, y.2 xs (SkF.sqT_same s hp)⟩⟩
/-- for i, e in enumerate(entries), over a list or a tuple that stays -/
theorem for_enumS [Tabl] {K : PySem.W.Frag} {H : Hp} {p : Addr} {xs : List V} {g : TG} {tb : TS} {D : Ends} {σ : L2.St} (hp : SqL K H p xs ∨ SqT K H p xs) (Pv : Nat → L2.St → Hp → Prop) (h0 : Pv 0 σ H) (hs : ∀ i σ H', Pv i σ H' → Same H H')
    (go : ∀ i x σ H' T, xs[i]? = some x → Pv i σ H' → H' T = none → g (.ref T) σ (upd H' T (.tup [.int (i : Nat), x])) fun σ2 H2 => tb { D with nx := Pv (i + 1), ct := Pv (i + 1), bk := D.nx } σ2 H2) (stop : ∀ σ H', Pv xs.length σ H' → D.nx σ H') :
    let F := fun (J : It) => ∃ W : Nat → Nat → L2.St → Hp → Prop, (∃ m, W 0 m σ H) ∧ ∀ i m σ H, W i m σ H →
      (J.stop i H ∧ D.nx σ H) ∨ (J.go i H ∧ ∃ N : L2.St → Hp → Prop, (∀ σ' H', N σ' H' → ∃ m', m' < m ∧ W (i + 1) m' σ' H') ∧ ∀ x H', J.yld i H x H' → g x σ H' fun σ2 H2 => tb { D with nx := N, ct := N, bk := D.nx } σ2 H2)
    (SqL K H p xs ∧ F (Ite K p)) ∨ (SqT K H p xs ∧ F (EnT.IteT K p)) := by
  rcases hp with hp | hp
  · refine .inl ⟨hp, EnT.for_any (n := xs.length) Pv h0 (fun i σ H' lt pv => ?_) (fun σ H' pv => ⟨⟨xs, SkF.sqL_same (hs _ _ _ pv) hp, Nat.le_refl _⟩, stop σ H' pv⟩)⟩
    have sq : SqL K H' p xs := SkF.sqL_same (hs _ _ _ pv) hp
    refine ⟨⟨xs, _, sq, List.getElem?_eq_getElem lt⟩, fun v H'' ⟨T, x, ev, nT, eH, ex⟩ => ?_⟩
    subst ev
    subst eH
    exact go i x σ H' T (ex xs sq) pv nT
  · refine .inr ⟨hp, EnT.for_any (n := xs.length) Pv h0 (fun i σ H' lt pv => ?_) (fun σ H' pv => ⟨⟨xs, SkF.sqT_same (hs _ _ _ pv) hp, rfl⟩, stop σ H' pv⟩)⟩
    have sq : SqT K H' p xs := SkF.sqT_same (hs _ _ _ pv) hp
    refine ⟨⟨xs, _, sq, List.getElem?_eq_getElem lt⟩, fun v H'' ⟨T, x, ev, nT, eH, ex⟩ => ?_⟩
    subst ev
    subst eH
    exact go i x σ H' T (ex xs sq) pv nT
/-- the machine at m -/
def GoodP (z : Str) (n : Int) (e : Int × Str) : Prop := 0 ≤ e.1 ∧ e.1 ≤ n - 1 ∧ Over z e.2 ∧ (e.2.length : Int) ≤ 400
def GoodA (r z : Str) (n : Int) (e : EnS.Arc) : Prop := 0 ≤ e.1 ∧ e.1 ≤ n - 1 ∧ e.2.1.length = 1 ∧ Over r e.2.1 ∧ Over z e.2.2.1 ∧ (e.2.2.1.length : Int) ≤ 400 ∧ 0 ≤ e.2.2.2 ∧ e.2.2.2 ≤ n - 1
def mfs (r z : Str) (n : Int) (b a e : Addr) : List (Str × V) := putF "_ends" (.ref e) (putF "_arcs" (.ref a) (putF "_begins" (.ref b) (putF "_size" (.int n) (putF "_write" (.str z) (putF "_read" (.str r) [])))))
section
variable {r z : Str} {n : Int} {b a e : Addr}
theorem mfs_ends : (mfs r z n b a e).lookup ("_ends" : Str) = some (.ref e) := by
  unfold mfs
  rw [lookup_putF, if_pos rfl]
theorem mfs_arcs : (mfs r z n b a e).lookup ("_arcs" : Str) = some (.ref a) := by
  unfold mfs
  rw [lookup_putF, if_neg (by decide +kernel), lookup_putF, if_pos rfl]
theorem mfs_begins : (mfs r z n b a e).lookup ("_begins" : Str) = some (.ref b) := by
  unfold mfs
  rw [lookup_putF, if_neg (by decide +kernel), lookup_putF, if_neg (by decide +kernel), lookup_putF, if_pos rfl]
theorem mfs_size : (mfs r z n b a e).lookup ("_size" : Str) = some (.int n) := by
  unfold mfs
  rw [lookup_putF, if_neg (by decide +kernel), lookup_putF, if_neg (by decide +kernel), lookup_putF, if_neg (by decide +kernel), lookup_putF, if_pos rfl]
theorem mfs_write : (mfs r z n b a e).lookup ("_write" : Str) = some (.str z) := by
  unfold mfs
  rw [lookup_putF, if_neg (by decide +kernel), lookup_putF, if_neg (by decide +kernel), lookup_putF, if_neg (by decide +kernel), lookup_putF, if_neg (by decide +kernel), lookup_putF, if_pos rfl]
theorem mfs_read : (mfs r z n b a e).lookup ("_read" : Str) = some (.str r) := by
  unfold mfs
  rw [lookup_putF, if_neg (by decide +kernel), lookup_putF, if_neg (by decide +kernel), lookup_putF, if_neg (by decide +kernel), lookup_putF, if_neg (by decide +kernel), lookup_putF, if_neg (by decide +kernel), lookup_putF, if_pos rfl]
end
theorem lenF {f : Str} {v : V} {fs : List (Str × V)} {k : Nat} (h : fs.length ≤ k) : (putF f v fs).length ≤ k + 1 := Nat.le_trans (length_putF f v fs) (by omega)
theorem RowAt.but [Tabl] {K : PySem.W.Frag} {m : Addr} {H H' : Hp} {C dx : Addr} {fs : List (Str × V)} {p : Addr} {xs : List V} (k : But m H H') (hm : H m = some (.ins C dx fs)) (h : Own.RowAt K H p xs) : Own.RowAt K H' p xs :=
  h.imp (fun h => k _ _ (fun e => by rw [e, hm] at h; cases h) h) fun h => h.imp (fun h => k _ _ (fun e => by rw [e, hm] at h; cases h) h) id
theorem EntL.but [Tabl] {α : Type} {img : α → List V} {m : Addr} {H H' : Hp} {C dx : Addr} {fs : List (Str × V)} {xs : List V} {es : List α} (k : But m H H') (hm : H m = some (.ins C dx fs)) (h : EntL img H xs es) : EntL img H' xs es :=
  Paired.mapP h fun _ _ ⟨t, e, q⟩ => ⟨t, e, k _ _ (fun z => by rw [z, hm] at q; cases q) q⟩
/-- the list at l holds the entries es, each once, in order -/
def Told {α : Type} (img : α → List V) (lt : α → α → Prop) (H : Hp) (l : Addr) (es : List α) : Prop := ∃ (xs : List V) (ds : List α), H l = some (.lst xs) ∧ EntL img H xs ds ∧ ds.Pairwise lt ∧ (∀ e, e ∈ ds ↔ e ∈ es) ∧ ds.length ≤ es.length ∧ ds.length ≤ 400
def Mach (C : Addr) (H : Hp) (m : Addr) (r z : Str) (n : Int) (be : List (Int × Str)) (ae : List EnS.Arc) (ee : List (Int × Str)) : Prop := ∃ dx b a e, H m = some (.ins C dx (mfs r z n b a e)) ∧ Told pimg EnS.PLt H b be ∧ Told aimg EnS.ALt H a ae ∧ Told pimg EnS.PLt H e ee ∧ b ≠ a ∧ b ≠ e ∧ a ≠ e
theorem Told.but [Tabl] {α : Type} {img : α → List V} {lt : α → α → Prop} {m : Addr} {H H' : Hp} {C dx : Addr} {fs : List (Str × V)} {l : Addr} {es : List α} (k : But m H H') (hm : H m = some (.ins C dx fs)) (h : Told img lt H l es) : Told img lt H' l es := by
  obtain ⟨xs, ds, hl, en, r⟩ := h
  exact ⟨xs, ds, k _ _ (fun z => by rw [z, hm] at hl; cases hl) hl, en.but k hm, r⟩
/-- the lists that the machine at m holds are new since H -/
def Young (C : Addr) (H H' : Hp) (m : Addr) : Prop := ∀ dx r z n b a e, H' m = some (.ins C dx (mfs r z n b a e)) → H b = none ∧ H a = none ∧ H e = none
theorem Young.of {C : Addr} {H H' : Hp} {m dx : Addr} {r z : Str} {n : Int} {b a e : Addr} (h : H' m = some (.ins C dx (mfs r z n b a e))) (hb : H b = none) (ha : H a = none) (he : H e = none) : Young C H H' m := by
  intro dx' r' z' n' b' a' e' h'
  rw [h] at h'
  have q : mfs r z n b a e = mfs r' z' n' b' a' e' := by
    injection h' with h'
    injection h'
  have q1 := mfs_begins (r := r) (z := z) (n := n) (b := b) (a := a) (e := e)
  rw [q, mfs_begins] at q1
  have q2 := mfs_arcs (r := r) (z := z) (n := n) (b := b) (a := a) (e := e)
  rw [q, mfs_arcs] at q2
  have q3 := mfs_ends (r := r) (z := z) (n := n) (b := b) (a := a) (e := e)
  rw [q, mfs_ends] at q3
  cases q1
  cases q2
  cases q3
  exact ⟨hb, ha, he⟩
theorem vals_take1 : ∀ {xs : List V} {us : List Value}, Vals xs us → Vals (xs.take 1) (us.take 1)
  | _, _, .nil => .nil
  | _, _, .cons a _ => .cons a .nil
/-- x < y, alike data of any depth -/
def rLtD (K : PySem.W.Frag) : R2 := fun x y H Q => ∃ d e, Dp K H x d ∧ Dp K H y e ∧ PySem.W.alike d e = true ∧ d ≠ .none ∧ d.depth ≤ 16 ∧ Q (.bl (PySem.W.dataLt d e)) H
theorem op_ltD {X : Cx} (hu : X.A.units + 64 < cLine) : OpR X (compareOp .Lt) (rLtD X.K) := by
  intro pins s σ H x y v u Q I rx ry h
  obtain ⟨d, e, hd, he, al, nn, dp, q⟩ := h
  obtain ⟨as, r1⟩ := Dp.reads I d x v hd rx
  obtain ⟨bs, r2⟩ := Dp.reads I e y u he ry
  exact PySem.W.lt_data r1 r2 al nn (by omega) ⟨.bl _, H, I, rfl, q⟩
theorem depth_wkey (x : Str) : (EnS.wkey x).depth ≤ 16 := by simp [EnS.wkey, PyData.depth, PyData.depthAll]
theorem hu1 {u : Nat} (h : u + 64 < cLine) : u + 1 < cLine := by omega
/-- a dict of flags by entries -/
def flagD {α : Type} (pk : α → List L2.Key) (f : α → Bool) (ds : List α) : List (List L2.Key × V) := ds.map fun e => (pk e, V.bl (f e))
theorem flag_any {α : Type} {pk : α → List L2.Key} (inj : ∀ a b, pk a = pk b → a = b) (f : α → Bool) (ds : List α) (e : α) : ((flagD pk f ds).any fun kv => decide (kv.1 = pk e)) = true ↔ e ∈ ds := by
  constructor
  · intro h
    obtain ⟨kv, hk, q⟩ := List.any_eq_true.mp h
    obtain ⟨a, ha, rfl⟩ := List.mem_map.mp hk
    exact inj _ _ (of_decide_eq_true q) ▸ ha
  · intro m
    exact List.any_eq_true.mpr ⟨(pk e, .bl (f e)), List.mem_map_of_mem (f := fun e => (pk e, V.bl (f e))) m, decide_eq_true rfl⟩
theorem flag_put {α : Type} [DecidableEq α] {pk : α → List L2.Key} (inj : ∀ a b, pk a = pk b → a = b) (f : α → Bool) (b : Bool) (ds : List α) (e : α) (m : e ∈ ds) :
    putK (flagD pk f ds) (pk e) (.bl b) = flagD pk (fun x => if x = e then b else f x) ds := by
  unfold putK
  rw [if_pos ((flag_any inj f ds e).mpr m)]
  unfold flagD
  rw [List.map_map]
  refine List.map_congr_left fun a _ => ?_
  show (if pk a = pk e then (pk a, V.bl b) else (pk a, V.bl (f a))) = (pk a, V.bl (if a = e then b else f a))
  by_cases h : a = e
  · rw [if_pos h, if_pos (by rw [h])]
  · rw [if_neg h, if_neg fun z => h (inj _ _ z)]
theorem flag_add {α : Type} [DecidableEq α] {pk : α → List L2.Key} (inj : ∀ a b, pk a = pk b → a = b) (b : Bool) (ds : List α) (e : α) : putK (flagD pk (fun _ => b) ds) (pk e) (.bl b) = flagD pk (fun _ => b) (addNew ds e) := by
  unfold addNew
  by_cases m : e ∈ ds
  · rw [if_pos m, flag_put inj _ b ds e m]
    exact congrArg (fun g => flagD pk g ds) (funext fun x => ite_self b)
  · rw [if_neg m]
    unfold putK
    rw [if_neg fun h => m ((flag_any inj _ ds e).mp h)]
    unfold flagD
    rw [List.map_append]
    rfl
theorem flag_val {α : Type} {pk : α → List L2.Key} (inj : ∀ a b, pk a = pk b → a = b) (f : α → Bool) : ∀ {ds : List α} {e : α}, e ∈ ds → valV (flagD pk f ds) (pk e) = some (.bl (f e))
  | d :: ds, e, m => by
    by_cases h : d = e
    · subst h
      exact valV_pos rfl
    · have m' : e ∈ ds := (List.mem_cons.mp m).resolve_left fun z => h z.symm
      exact (valV_neg (fun z => h (inj _ _ z))).trans (flag_val inj f m')
theorem flag_len {α : Type} (pk : α → List L2.Key) (f : α → Bool) (ds : List α) : (flagD pk f ds).length = ds.length := List.length_map ..
end Lb

namespace Lb
open PySem PySem.Spec PyProof.Rows L2
/-! ### lists that are spoilt -/
/-- all but the lists at L stands -/
structure ButL [Tabl] (L : List Addr) (H H' : Hp) : Prop where
  old : ∀ b o, H b = some o → (∀ xs, o = .lst xs → b ∉ L) → NoT o → H' b = some o
  lst : ∀ b xs, H b = some (.lst xs) → ∃ ys, H' b = some (.lst ys)
  tab : ∀ b ps, H b = some (.tbl ps) → ∃ qs, H' b = some (.tbl qs)
  good : Good H → Good H'
section
variable [Tabl] {L : List Addr} {H H1 H' H2 : Hp}
theorem ButL.refl (H : Hp) : ButL L H H := ⟨fun _ _ h _ _ => h, fun _ xs h => ⟨xs, h⟩, fun _ ps h => ⟨ps, h⟩, id⟩
theorem ButL.trans (p : ButL L H H1) (q : ButL L H1 H2) : ButL L H H2 :=
  ⟨fun b o h n k => q.old b o (p.old b o h n k) n k, fun b xs h => let ⟨ys, e⟩ := p.lst b xs h; q.lst b ys e, fun b ps h => let ⟨qs, e⟩ := p.tab b ps h; q.tab b qs e, fun g => q.good (p.good g)⟩
theorem ButL.same (s : Same H H') : ButL L H H' := ⟨fun b o h _ k => s.old b o h k, fun b xs h => ⟨xs, s _ _ h⟩, s.tab, s.good⟩
theorem ButL.put {a : Addr} {xs ys : List V} (m : a ∈ L) (h : H a = some (.lst xs)) : ButL L H (upd H a (.lst ys)) := by
  have b := But.put (o := .lst ys) h
  refine ⟨fun b' o e n k => b.old b' o (fun z => ?_) e k, fun b' xs' e => ?_, b.tab, b.good⟩
  · subst z
    rw [h] at e
    cases e
    exact n _ rfl m
  · by_cases z : b' = a
    · subst z
      exact ⟨ys, upd_same⟩
    · exact ⟨xs', by rw [upd_ne z]; exact e⟩
theorem ButL.tup (k : ButL L H H') {b : Addr} {xs : List V} (h : H b = some (.tup xs)) : H' b = some (.tup xs) := k.old b _ h (fun _ z => by cases z) (fun _ z => by cases z)
theorem ButL.ins (k : ButL L H H') {b C dx : Addr} {fs : List (Str × V)} (h : H b = some (.ins C dx fs)) : H' b = some (.ins C dx fs) := k.old b _ h (fun _ z => by cases z) (fun _ z => by cases z)
theorem ButL.row (k : ButL L H H') {b : Addr} {xs : List V} (h : H b = some (.lst xs)) (n : b ∉ L) : H' b = some (.lst xs) := k.old b _ h (fun _ _ => n) (fun _ z => by cases z)
theorem ButL.free (k : ButL L H H') {p : Addr} (n : H' p = none) : H p = none := by
  cases e : H p with
  | none => rfl
  | some o =>
    by_cases t : ∃ ps, o = .tbl ps
    · obtain ⟨ps, rfl⟩ := t
      obtain ⟨qs, e'⟩ := k.tab _ _ e
      rw [e'] at n
      cases n
    · by_cases l : ∃ xs, o = .lst xs
      · obtain ⟨xs, rfl⟩ := l
        obtain ⟨ys, e'⟩ := k.lst _ _ e
        rw [e'] at n
        cases n
      · rw [k.old _ _ e (fun xs z => absurd ⟨xs, z⟩ l) (fun ps z => t ⟨ps, z⟩)] at n
        cases n
theorem ButL.held (k : ButL L H H') {b : Addr} (h : H b ≠ none) : H' b ≠ none := fun e => h (k.free e)
theorem ButL.back (k : ButL L H H') (h : ∀ b ∈ L, ∀ xs, H b = some (.lst xs) → H' b = some (.lst xs)) : Same H H' := by
  refine ⟨fun b o e t => ?_, k.tab, k.good⟩
  by_cases l : ∃ xs, o = .lst xs
  · obtain ⟨xs, rfl⟩ := l
    by_cases m : b ∈ L
    · exact h b m xs e
    · exact k.row e m
  · exact k.old _ _ e (fun xs z => absurd ⟨xs, z⟩ l) t
/-- lists made since -/
theorem ButL.young (s : Same H H1) (k : ButL L H1 H2) (n : ∀ b ∈ L, H b = none) : Same H H2 :=
  ⟨fun b o e t => k.old b o (s.old b o e t) (fun _ _ m => by rw [n b m] at e; cases e) t, fun b ps e => let ⟨qs, f⟩ := s.tab b ps e; k.tab b qs f, fun g => k.good (s.good g)⟩
theorem ButL.youngB {a : Addr} (s : But a H H1) (k : ButL L H1 H2) (n : ∀ b ∈ L, H b = none) : But a H H2 :=
  ⟨fun b o ne e t => k.old b o (s.old b o ne e t) (fun _ _ m => by rw [n b m] at e; cases e) t, fun b ps e => let ⟨qs, f⟩ := s.tab b ps e; k.tab b qs f, fun g => k.good (s.good g)⟩
theorem ButL.more {L' : List Addr} (k : ButL L H H') (h : ∀ b ∈ L, b ∈ L') : ButL L' H H' := ⟨fun b o e n t => k.old b o e (fun xs z m => n xs z (h b m)) t, k.lst, k.tab, k.good⟩
theorem EntL.butl {α : Type} {img : α → List V} {xs : List V} {es : List α} (h : EntL img H xs es) (k : ButL L H H') : EntL img H' xs es := Paired.mapP h fun _ _ ⟨t, e, q⟩ => ⟨t, e, k.tup q⟩
theorem Told.butl {α : Type} {img : α → List V} {lt : α → α → Prop} {l : Addr} {es : List α} (h : Told img lt H l es) (k : ButL L H H') (n : l ∉ L) : Told img lt H' l es := by
  obtain ⟨xs, ds, hl, en, r⟩ := h
  exact ⟨xs, ds, k.row hl n, en.butl k, r⟩
theorem Told.same {α : Type} {img : α → List V} {lt : α → α → Prop} {l : Addr} {es : List α} (h : Told img lt H l es) (k : Same H H') : Told img lt H' l es := by
  obtain ⟨xs, ds, hl, en, r⟩ := h
  exact ⟨xs, ds, k _ _ hl, en.same k, r⟩
theorem Mach.same {C m : Addr} {r z : Str} {n : Int} {be : List (Int × Str)} {ae : List EnS.Arc} {ee : List (Int × Str)} (h : Mach C H m r z n be ae ee) (s : Same H H') : Mach C H' m r z n be ae ee := by
  obtain ⟨dx, b, a, e, hm, tb, ta, te, r⟩ := h
  exact ⟨dx, b, a, e, s _ _ hm, tb.same s, ta.same s, te.same s, r⟩
theorem Mach.butl {C m : Addr} {r z : Str} {n : Int} {be : List (Int × Str)} {ae : List EnS.Arc} {ee : List (Int × Str)} {G : Hp} (h : Mach C H m r z n be ae ee) (y : Young C G H m) (k : ButL L H H') (o : ∀ b ∈ L, G b ≠ none) : Mach C H' m r z n be ae ee := by
  obtain ⟨dx, b, a, e, hm, tb, ta, te, r⟩ := h
  obtain ⟨y1, y2, y3⟩ := y _ _ _ _ _ _ _ hm
  exact ⟨dx, b, a, e, k.ins hm, tb.butl k fun m => o _ m y1, ta.butl k fun m => o _ m y2, te.butl k fun m => o _ m y3, r⟩
end
/-- L: the lists in a plain value, from within -/
def ListsR (rel : Hp → V → List Addr → Prop) (H : Hp) (v : V) (L : List Addr) : Prop := (plainV v = true ∧ L = []) ∨ ∃ (p : Addr) (xs : List V) (Ls : List (List Addr)), v = .ref p ∧ xs.length ≤ 1000000 ∧ Ls.length = xs.length ∧
  (∀ (i : Nat) (x : V) (l : List Addr), xs[i]? = some x → Ls[i]? = some l → rel H x l) ∧ ((H p = some (.lst xs) ∧ L = Ls.flatten ++ [p]) ∨ (H p = some (.tup xs) ∧ L = Ls.flatten))
def ListsD : Nat → Hp → V → List Addr → Prop
  | 0 => ListsR fun _ _ _ => False
  | n + 1 => ListsR (ListsD n)
theorem ListsD.keep [Tabl] {H H' : Hp} (s : Same H H') : ∀ {n : Nat} {v : V} {L : List Addr}, ListsD n H v L → ListsD n H' v L
  | 0, v, L, h => h.elim .inl fun ⟨p, xs, Ls, e, l, ll, r, o⟩ => .inr ⟨p, xs, Ls, e, l, ll, fun i x l a b => (r i x l a b).elim, o.elim (fun z => .inl ⟨s _ _ z.1, z.2⟩) fun z => .inr ⟨s _ _ z.1, z.2⟩⟩
  | n + 1, v, L, h => h.elim .inl fun ⟨p, xs, Ls, e, l, ll, r, o⟩ => .inr ⟨p, xs, Ls, e, l, ll, fun i x l a b => ListsD.keep s (r i x l a b), o.elim (fun z => .inl ⟨s _ _ z.1, z.2⟩) fun z => .inr ⟨s _ _ z.1, z.2⟩⟩
/-- each of them is a list -/
theorem ListsD.lst {H : Hp} : ∀ {n : Nat} {v : V} {L : List Addr}, ListsD n H v L → ∀ a ∈ L, ∃ xs, H a = some (.lst xs) ∧ xs.length ≤ 1000000 := by
  have key : ∀ (rel : Hp → V → List Addr → Prop), (∀ x l, rel H x l → ∀ a ∈ l, ∃ xs, H a = some (.lst xs) ∧ xs.length ≤ 1000000) → ∀ v L, ListsR rel H v L → ∀ a ∈ L, ∃ xs, H a = some (.lst xs) ∧ xs.length ≤ 1000000 := by
    rintro rel ih v L (⟨_, rfl⟩ | ⟨p, xs, Ls, _, lx, ll, r, o⟩) a m
    · cases m
    · have fl : a ∈ Ls.flatten → ∃ xs, H a = some (.lst xs) ∧ xs.length ≤ 1000000 := fun m => by
        obtain ⟨l, ml, ma⟩ := List.mem_flatten.mp m
        obtain ⟨i, hi, e⟩ := List.mem_iff_getElem.mp ml
        have h1 : Ls[i]? = some l := by rw [List.getElem?_eq_getElem hi, e]
        exact ih _ _ (r i _ l (List.getElem?_eq_getElem (by omega)) h1) a ma
      rcases o with ⟨o, rfl⟩ | ⟨o, rfl⟩
      · rcases List.mem_append.mp m with m | m
        · exact fl m
        · rw [List.mem_singleton.mp m]
          exact ⟨xs, o, lx⟩
      · exact fl m
  intro n
  induction n with
  | zero => exact fun {v L} => key _ (fun _ _ h => h.elim) v L
  | succ n ih => exact fun {v L} => key _ (fun _ _ h => ih h) v L
theorem take_flat_len {α : Type} (Ls : List (List α)) (i : Nat) : (Ls.take i).flatten.length ≤ Ls.flatten.length := by
  have h : Ls.flatten = (Ls.take i).flatten ++ (Ls.drop i).flatten := by rw [← List.flatten_append, List.take_append_drop]
  rw [h, List.length_append]
  omega
theorem take_flat {α : Type} {Ls : List (List α)} {i : Nat} {l : List α} (h : Ls[i]? = some l) : (Ls.take (i + 1)).flatten = (Ls.take i).flatten ++ l := by
  rw [List.take_add_one, h, List.flatten_append]
  show _ ++ (l ++ []) = _
  rw [List.append_nil]
/-- for x in xs, a list or a tuple that stays -/
theorem for_seq [Tabl] {K : PySem.W.Frag} {H : Hp} {p : Addr} {xs : List V} {g : TG} {tb : TS} {D : Ends} {σ : L2.St} (hp : SqL K H p xs ∨ SqT K H p xs) (Pv : Nat → L2.St → Hp → Prop) (h0 : Pv 0 σ H) (hs : ∀ i σ H', Pv i σ H' → Same H H')
    (go : ∀ i x σ H', xs[i]? = some x → Pv i σ H' → g x σ H' fun σ2 H2 => tb { D with nx := Pv (i + 1), ct := Pv (i + 1), bk := D.nx } σ2 H2) (stop : ∀ σ H', Pv xs.length σ H' → D.nx σ H') :
    let F := fun (J : It) => ∃ W : Nat → Nat → L2.St → Hp → Prop, (∃ m, W 0 m σ H) ∧ ∀ i m σ H, W i m σ H →
      (J.stop i H ∧ D.nx σ H) ∨ (J.go i H ∧ ∃ N : L2.St → Hp → Prop, (∀ σ' H', N σ' H' → ∃ m', m' < m ∧ W (i + 1) m' σ' H') ∧ ∀ x H', J.yld i H x H' → g x σ H' fun σ2 H2 => tb { D with nx := N, ct := N, bk := D.nx } σ2 H2)
    (SqL K H p xs ∧ F (Itl K p)) ∨ (SqT K H p xs ∧ F (Itt K p)) := by
  rcases hp with hp | hp
  · refine .inl ⟨hp, EnT.for_any (n := xs.length) Pv h0 (fun i σ H' lt pv => ?_) (fun σ H' pv => ⟨⟨xs, SkF.sqL_same (hs _ _ _ pv) hp, Nat.le_refl _⟩, stop σ H' pv⟩)⟩
    have sq : SqL K H' p xs := SkF.sqL_same (hs _ _ _ pv) hp
    refine ⟨⟨xs, _, sq, List.getElem?_eq_getElem lt⟩, fun v H'' y => ?_⟩
    obtain ⟨e1, e2⟩ := y
    subst e1
    exact go i v σ H'' (e2 xs sq) pv
  · refine .inr ⟨hp, EnT.for_any (n := xs.length) Pv h0 (fun i σ H' lt pv => ?_) (fun σ H' pv => ⟨⟨xs, SkF.sqT_same (hs _ _ _ pv) hp, Nat.le_refl _⟩, stop σ H' pv⟩)⟩
    have sq : SqT K H' p xs := SkF.sqT_same (hs _ _ _ pv) hp
    refine ⟨⟨xs, _, sq, List.getElem?_eq_getElem lt⟩, fun v H'' y => ?_⟩
    obtain ⟨e1, e2⟩ := y
    subst e1
    exact go i v σ H'' (e2 xs sq) pv
theorem pw_unique {α : Type} {lt : α → α → Prop} (asym : ∀ a b, lt a b → lt b a → False) : ∀ {us ws : List α}, us.Pairwise lt → ws.Pairwise lt → (∀ y, y ∈ us ↔ y ∈ ws) → us = ws
  | [], [], _, _, _ => rfl
  | [], w :: ws, _, _, h => by cases (h w).mpr List.mem_cons_self
  | u :: us, [], _, _, h => by cases (h u).mp List.mem_cons_self
  | u :: us, w :: ws, p, q, h => by
    obtain ⟨p1, p2⟩ := List.pairwise_cons.mp p
    obtain ⟨q1, q2⟩ := List.pairwise_cons.mp q
    have e : u = w := by
      rcases List.mem_cons.mp ((h u).mp List.mem_cons_self) with e | m
      · exact e
      · rcases List.mem_cons.mp ((h w).mpr List.mem_cons_self) with e | m2
        · exact e.symm
        · exact (asym _ _ (p1 _ m2) (q1 _ m)).elim
    subst e
    rw [pw_unique asym p2 q2 fun y => ⟨fun m => ?_, fun m => ?_⟩]
    · rcases List.mem_cons.mp ((h y).mp (List.mem_cons_of_mem _ m)) with e | m2
      · subst e
        exact (asym _ _ (p1 _ m) (p1 _ m)).elim
      · exact m2
    · rcases List.mem_cons.mp ((h y).mpr (List.mem_cons_of_mem _ m)) with e | m2
      · subst e
        exact (asym _ _ (q1 _ m) (q1 _ m)).elim
      · exact m2
theorem pw_nodup {α : Type} {lt : α → α → Prop} (asym : ∀ a b, lt a b → lt b a → False) {us : List α} (h : us.Pairwise lt) : us.Nodup := h.imp fun {a b} q e => by
  subst e
  exact asym _ _ q q
theorem plt_asym (a b : Int × Str) (h : EnS.PLt a b) (k : EnS.PLt b a) : False := by
  rcases h with h | ⟨h1, h2⟩ <;> rcases k with k | ⟨k1, k2⟩
  · omega
  · omega
  · omega
  · exact bef_irrefl (bef_trans h2 k2)
theorem alt_asym (a b : EnS.Arc) (h : EnS.ALt a b) (k : EnS.ALt b a) : False := by
  rcases h with h | ⟨h1, h2⟩ <;> rcases k with k | ⟨k1, k2⟩
  · omega
  · omega
  · omega
  rcases h2 with h | ⟨h3, h4⟩ <;> rcases k2 with k | ⟨k3, k4⟩
  · exact List.lt_asymm h k
  · rw [k3] at h
    exact List.lt_irrefl _ h
  · rw [h3] at k
    exact List.lt_irrefl _ k
  rcases h4 with h | ⟨h5, h6⟩ <;> rcases k4 with k | ⟨k5, k6⟩
  · exact bef_irrefl (bef_trans h k)
  · rw [k5] at h
    exact bef_irrefl h
  · rw [h5] at k
    exact bef_irrefl k
  · omega
/-- entries as keys: pairs or arcs in strict order -/
def kimg (e : List L2.Key) : List V := e.map kV
def Shape (ds : List (List L2.Key)) : Prop := (∃ ps : List (Int × Str), ds = ps.map ppk ∧ ps.Pairwise EnS.PLt ∧ ∀ e ∈ ps, e.2.length ≤ 1000000) ∨ ∃ as : List EnS.Arc, ds = as.map apk ∧ as.Pairwise EnS.ALt ∧ ∀ e ∈ as, e.2.1.length ≤ 1000000 ∧ e.2.2.1.length ≤ 1000000
theorem EntL.keys {α : Type} {img : α → List V} (pk : α → List L2.Key) (hp : ∀ e, (pk e).map kV = img e) {H : Hp} : ∀ {xs : List V} {es : List α}, EntL img H xs es → EntL kimg H xs (es.map pk)
  | _, _, .nil => .nil
  | _, _, .cons ⟨t, e, q⟩ r => .cons ⟨t, e, by rw [show kimg (pk _) = _ from hp _]; exact q⟩ (EntL.keys pk hp r)
/-- a told list, by keys -/
structure KeysOf (H : Hp) (l : Addr) (es : List (List L2.Key)) (rs : List V) (ds : List (List L2.Key)) : Prop where
  row : H l = some (.lst rs)
  ent : EntL kimg H rs ds
  nd : ds.Nodup
  mem : ∀ e, e ∈ ds ↔ e ∈ es
  len : ds.length ≤ 1000
  shape : Shape ds
theorem nodup_map {α β : Type} {f : α → β} (inj : ∀ a b, f a = f b → a = b) {xs : List α} (h : xs.Nodup) : (xs.map f).Nodup := List.pairwise_map.mpr (h.imp fun {a b} ne e => ne (inj a b e))
theorem mem_map_inj {α β : Type} {f : α → β} {xs ys : List α} (h : ∀ e, e ∈ xs ↔ e ∈ ys) : ∀ e, e ∈ xs.map f ↔ e ∈ ys.map f := fun e => by
  rw [List.mem_map, List.mem_map]
  exact ⟨fun ⟨a, m, q⟩ => ⟨a, (h a).mp m, q⟩, fun ⟨a, m, q⟩ => ⟨a, (h a).mpr m, q⟩⟩
theorem Told.keysP {H : Hp} {l : Addr} {es : List (Int × Str)} (h : Told pimg EnS.PLt H l es) (g : ∀ e ∈ es, e.2.length ≤ 400) : ∃ rs ds, KeysOf H l (es.map ppk) rs ds := by
  obtain ⟨rs, ds, hl, en, pw, mem, _, l4⟩ := h
  exact ⟨rs, ds.map ppk, hl, en.keys ppk fun _ => rfl, nodup_map ppk_inj (pw_nodup plt_asym pw), mem_map_inj mem, by rw [List.length_map]; omega, .inl ⟨ds, rfl, pw, fun e m => Nat.le_trans (g e ((mem e).mp m)) (by decide)⟩⟩
theorem Told.keysA {H : Hp} {l : Addr} {es : List EnS.Arc} (h : Told aimg EnS.ALt H l es) (g : ∀ e ∈ es, e.2.1.length ≤ 400 ∧ e.2.2.1.length ≤ 400) : ∃ rs ds, KeysOf H l (es.map apk) rs ds := by
  obtain ⟨rs, ds, hl, en, pw, mem, _, l4⟩ := h
  exact ⟨rs, ds.map apk, hl, en.keys apk fun _ => rfl, nodup_map apk_inj (pw_nodup alt_asym pw), mem_map_inj mem, by rw [List.length_map]; omega, .inr ⟨ds, rfl, pw, fun e m => ⟨Nat.le_trans (g e ((mem e).mp m)).1 (by decide), Nat.le_trans (g e ((mem e).mp m)).2 (by decide)⟩⟩⟩
/-- x[i], a list or a tuple -/
theorem ix_any {K : PySem.W.Frag} {H : Hp} {p : Addr} {xs : List V} {i : Int} {x : V} {Q : VK} (hp : SqL K H p xs ∨ SqT K H p xs) (ha : atI xs i = some x) (q : Q x H) : rIx K (.ref p) (.int i) H Q :=
  hp.elim (fun h => .inl ⟨_, _, _, _, rfl, rfl, h, ha, q⟩) fun h => .inr (.inl ⟨_, _, _, _, rfl, rfl, h, ha, q⟩)
theorem sq_same [Tabl] {K : PySem.W.Frag} {H H' : Hp} {p : Addr} {xs : List V} (s : Same H H') (h : SqL K H p xs ∨ SqT K H p xs) : SqL K H' p xs ∨ SqT K H' p xs := h.imp (SkF.sqL_same s) (SkF.sqT_same s)
/-- entries of plain values -/
def ImgOk {α : Type} (img : α → List V) : Prop := ∀ e, (img e).length ≤ 4 ∧ ∀ v ∈ img e, plainV v = true
theorem pimg_ok : ImgOk pimg := fun e => ⟨by show 2 ≤ 4; decide, fun v m => by
  rcases List.mem_cons.mp m with h | m
  · rw [h]; rfl
  · rw [List.mem_singleton.mp m]; rfl⟩
theorem aimg_ok : ImgOk aimg := fun e => ⟨by show 4 ≤ 4; decide, fun v m => by
  rcases List.mem_cons.mp m with h | m
  · rw [h]; rfl
  rcases List.mem_cons.mp m with h | m
  · rw [h]; rfl
  rcases List.mem_cons.mp m with h | m
  · rw [h]; rfl
  · rw [List.mem_singleton.mp m]; rfl⟩
theorem ent_samed {α : Type} {img : α → List V} (ok : ImgOk img) {H : Hp} {n : Nat} {xs ys : List V} {es : List α} (h : EntL img H xs es) (k : EntL img H ys es) {i : Nat} {x y : V} (ex : xs[i]? = some x) (ey : ys[i]? = some y) : SameD (n + 1) H x y := by
  obtain ⟨e, t, he, rfl, ht⟩ := h.get ex
  obtain ⟨e', t', he', rfl, ht'⟩ := k.get ey
  rw [he] at he'
  cases he'
  obtain ⟨l, pl⟩ := ok e
  refine .inr ⟨t, t', _, _, rfl, rfl, .inl ⟨ht, ht'⟩, rfl, Nat.le_trans l (by decide), fun j a b ea eb => ?_⟩
  have q : a = b := Option.some.inj (ea.symm.trans eb)
  have pb := pl b (List.mem_of_getElem? eb)
  cases n with
  | zero => exact .inl ⟨q, pb⟩
  | succ n => exact .inl ⟨q, pb⟩
theorem rows_samed {α : Type} {img : α → List V} (ok : ImgOk img) {H : Hp} {n : Nat} {p q : Addr} {xs ys : List V} {es : List α} (hp : H p = some (.lst xs)) (hq : H q = some (.lst ys)) (h : EntL img H xs es) (k : EntL img H ys es) (l : es.length ≤ 1000000) : SameD (n + 2) H (.ref p) (.ref q) :=
  .inr ⟨p, q, xs, ys, rfl, rfl, .inr ⟨hp, hq⟩, h.len.trans k.len.symm, by rw [k.len]; exact l, fun _ _ _ ex ey => ent_samed ok h k ex ey⟩
/-- the six parts of a machine, as they are drawn -/
def Parts (H : Hp) (p : Addr) (r z : Str) (n : Int) (be : List (Int × Str)) (ae : List EnS.Arc) (ee : List (Int × Str)) : Prop := ∃ (b a e : Addr) (bx ax ex : List V), H p = some (.lst [.str r, .str z, .int n, .ref b, .ref a, .ref e]) ∧ H b = some (.lst bx) ∧ H a = some (.lst ax) ∧ H e = some (.lst ex) ∧
  IsAlpha r ∧ IsAlpha z ∧ 0 ≤ n ∧ n ≤ 64 ∧ bx.length ≤ 400 ∧ ax.length ≤ 400 ∧ ex.length ≤ 400 ∧ EntL pimg H bx be ∧ EntL aimg H ax ae ∧ EntL pimg H ex ee ∧ (∀ e ∈ be, GoodP z n e) ∧ (∀ e ∈ ae, GoodA r z n e) ∧ ∀ e ∈ ee, GoodP z n e
theorem But.made [Tabl] {m dx C : Addr} {H H' : Hp} (nm : H m = none) (nd : H dx = none) (ne : dx ≠ m) (b : But m (upd (upd H dx (.own m)) m (.ins C dx [])) H') : Same H H' := by
  have s1 := same_new (o := .own m) nd
  have nm' : (upd H dx (.own m)) m = none := by rw [upd_ne (Ne.symm ne)]; exact nm
  have s2 := same_new (o := .ins C dx []) nm'
  have s := s1.trans s2
  exact ⟨fun x o h k => b.old x o (fun z => by rw [z, nm] at h; cases h) (s.old x o h k) k, fun x ps h => let ⟨qs, e⟩ := s.tab x ps h; b.tab x qs e, fun g => b.good (s.good g)⟩
theorem samed_plain {n : Nat} {H : Hp} {x y : V} (h : SameD n H x y) (pl : plainV y = true) : x = y := by
  cases n with
  | zero =>
    rcases h with ⟨e, _⟩ | ⟨_, _, _, _, _, e, _⟩
    · exact e
    · rw [e] at pl; cases pl
  | succ n =>
    rcases h with ⟨e, _⟩ | ⟨_, _, _, _, _, e, _⟩
    · exact e
    · rw [e] at pl; cases pl
/-- what is like a list is a list of likes -/
theorem samed_lst {n : Nat} {H : Hp} {x : V} {q : Addr} {ys : List V} (h : SameD (n + 1) H x (.ref q)) (hq : H q = some (.lst ys)) : ∃ u xs, x = .ref u ∧ H u = some (.lst xs) ∧ xs.length = ys.length ∧ ∀ (i : Nat) (a b : V), xs[i]? = some a → ys[i]? = some b → SameD n H a b := by
  rcases h with ⟨_, pl⟩ | ⟨u, q', xs, ys', rfl, e, o, l, _, r⟩
  · cases pl
  · cases e
    rcases o with ⟨_, o2⟩ | ⟨o1, o2⟩
    · rw [hq] at o2; cases o2
    · rw [hq] at o2
      cases o2
      exact ⟨u, xs, rfl, o1, l, r⟩
theorem samed_tup {n : Nat} {H : Hp} {x : V} {q : Addr} {ys : List V} (h : SameD (n + 1) H x (.ref q)) (hq : H q = some (.tup ys)) : ∃ u xs, x = .ref u ∧ H u = some (.tup xs) ∧ xs.length = ys.length ∧ ∀ (i : Nat) (a b : V), xs[i]? = some a → ys[i]? = some b → SameD n H a b := by
  rcases h with ⟨_, pl⟩ | ⟨u, q', xs, ys', rfl, e, o, l, _, r⟩
  · cases pl
  · cases e
    rcases o with ⟨o1, o2⟩ | ⟨_, o2⟩
    · rw [hq] at o2
      cases o2
      exact ⟨u, xs, rfl, o1, l, r⟩
    · rw [hq] at o2; cases o2
theorem samed_ents {α : Type} {img : α → List V} (ok : ImgOk img) {n : Nat} {H : Hp} {x : V} {q : Addr} {ys : List V} {es : List α} (h : SameD (n + 2) H x (.ref q)) (hq : H q = some (.lst ys)) (en : EntL img H ys es) : ∃ u xs, x = .ref u ∧ H u = some (.lst xs) ∧ EntL img H xs es := by
  obtain ⟨u, xs, rfl, hu, l, r⟩ := samed_lst h hq
  refine ⟨u, xs, rfl, hu, EntL.of (l.trans en.len) fun i x e ex he => ?_⟩
  obtain ⟨y, ey, t, rfl, ht⟩ := paired_get2 en he
  obtain ⟨u', zs, rfl, hu', l', r'⟩ := samed_tup (r i _ _ ex ey) ht
  refine ⟨u', rfl, ?_⟩
  have : zs = img e := by
    refine List.ext_getElem? fun j => ?_
    cases ea : zs[j]? with
    | none =>
      symm
      rw [List.getElem?_eq_none_iff, ← l']
      exact List.getElem?_eq_none_iff.mp ea
    | some a =>
      have hj := (List.getElem?_eq_some_iff.mp ea).1
      have eb := List.getElem?_eq_getElem (l := img e) (i := j) (by omega)
      rw [eb, samed_plain (r' j _ _ ea eb) ((ok e).2 _ (List.getElem_mem _))]
  rw [← this]
  exact hu'
/-- small atoms -/
def AtomsOk (vs : List V) : Prop := ∀ v ∈ vs, plainV v = true ∧ (∀ x : Str, v = .str x → x.length ≤ 1000000) ∧ ∀ i : Int, v = .int i → i.natAbs < 2 ^ 13000
theorem small_pow {i : Int} (h : i.natAbs < 64) : i.natAbs < 2 ^ 13000 := by
  have h2 : 2 ^ 6 ≤ 2 ^ 13000 := Nat.pow_le_pow_right (by omega) (by omega)
  exact Nat.lt_of_lt_of_le (show i.natAbs < 2 ^ 6 from h) h2
theorem atom_int {i : Int} {n : Int} (h0 : 0 ≤ i) (h1 : i ≤ n - 1) (h2 : n ≤ 64) : plainV (.int i) = true ∧ (∀ x : Str, V.int i = .str x → x.length ≤ 1000000) ∧ ∀ j : Int, V.int i = .int j → j.natAbs < 2 ^ 13000 := ⟨rfl, fun x e => (by cases e), fun j e => (by cases e; exact small_pow (by omega))⟩
theorem atom_str {x : Str} (h : x.length ≤ 400) : plainV (.str x) = true ∧ (∀ y : Str, V.str x = .str y → y.length ≤ 1000000) ∧ ∀ j : Int, V.str x = .int j → j.natAbs < 2 ^ 13000 := ⟨rfl, fun y e => (by cases e; omega), fun j e => (by cases e)⟩
theorem goodP_atoms {z : Str} {n : Int} {e : Int × Str} (g : GoodP z n e) (h : n ≤ 64) : AtomsOk (pimg e) := fun v m => by
  obtain ⟨g1, g2, _, g3⟩ := g
  rcases List.mem_cons.mp m with h' | m
  · rw [h']; exact atom_int g1 g2 h
  · rw [List.mem_singleton.mp m]; exact atom_str (by omega)
theorem goodA_atoms {r z : Str} {n : Int} {e : EnS.Arc} (g : GoodA r z n e) (h : n ≤ 64) : AtomsOk (aimg e) := fun v m => by
  obtain ⟨g1, g2, g3, _, _, g4, g5, g6⟩ := g
  rcases List.mem_cons.mp m with h' | m
  · rw [h']; exact atom_int g1 g2 h
  rcases List.mem_cons.mp m with h' | m
  · rw [h']; exact atom_str (by omega)
  rcases List.mem_cons.mp m with h' | m
  · rw [h']; exact atom_str (by omega)
  · rw [List.mem_singleton.mp m]; exact atom_int g5 g6 h
theorem EntL.deep {α : Type} {img : α → List V} {H : Hp} {c : Addr} {n : Nat} {xs : List V} {es : List α} (h : EntL img H xs es) (ok : ImgOk img) (hc : ∀ zs, H c ≠ some (.tup zs)) (at_ : ∀ e ∈ es, AtomsOk (img e)) : ∀ x ∈ xs, Deep c (n + 1) H x := fun x m => by
  obtain ⟨i, hi⟩ := List.getElem?_of_mem m
  obtain ⟨e, t, he, rfl, ht⟩ := h.get hi
  exact deep_tup (fun z => hc _ (by rw [← z]; exact ht)) ht (Nat.le_trans (ok e).1 (by decide)) fun v mv => let ⟨a1, a2, a3⟩ := at_ e (List.mem_of_getElem? he) v mv; deep_atom a1 a2 a3
/-- lists in entries -/
theorem lists_lst {H : Hp} {n : Nat} {v : Addr} {vs : List V} {Ls : List (List Addr)} (hv : H v = some (.lst vs)) (l : vs.length ≤ 1000000) (ll : Ls.length = vs.length) (r : ∀ (i : Nat) (x : V) (l : List Addr), vs[i]? = some x → Ls[i]? = some l → ListsD n H x l) : ListsD (n + 1) H (.ref v) (Ls.flatten ++ [v]) :=
  .inr ⟨v, vs, Ls, rfl, l, ll, r, .inl ⟨hv, rfl⟩⟩
theorem flat_nil : ∀ (n : Nat), (List.replicate n ([] : List Addr)).flatten = []
  | 0 => rfl
  | n + 1 => by rw [List.replicate_succ, List.flatten_cons, flat_nil n]; rfl
theorem lists_plain {H : Hp} {n : Nat} {v : V} (h : plainV v = true) : ListsD n H v [] := by cases n <;> exact .inl ⟨h, rfl⟩
theorem lists_ents {α : Type} {img : α → List V} (ok : ImgOk img) {H : Hp} {n : Nat} {xs : List V} {es : List α} (en : EntL img H xs es) (i : Nat) (x : V) (l : List Addr) (ex : xs[i]? = some x) (el : (List.replicate xs.length ([] : List Addr))[i]? = some l) : ListsD (n + 1) H x l := by
  have el : l = [] := List.eq_of_mem_replicate (List.mem_of_getElem? el)
  subst el
  obtain ⟨e, t, he, rfl, ht⟩ := en.get ex
  refine .inr ⟨t, _, List.replicate (img e).length [], rfl, Nat.le_trans (ok e).1 (by decide), List.length_replicate .., fun j a l ea el => ?_, .inr ⟨ht, (flat_nil _).symm⟩⟩
  rw [List.eq_of_mem_replicate (List.mem_of_getElem? el)]
  exact lists_plain ((ok e).2 _ (List.mem_of_getElem? ea))
theorem EntL.lists {α : Type} {img : α → List V} {H : Hp} {n : Nat} {l : Addr} {xs : List V} {es : List α} (en : EntL img H xs es) (ok : ImgOk img) (hl : H l = some (.lst xs)) (le : es.length ≤ 1000000) : ListsD (n + 2) H (.ref l) [l] := by
  have h := lists_lst (n := n + 1) hl (by rw [en.len]; exact le) (List.length_replicate (a := ([] : List Addr)) ..) (lists_ents ok en)
  rw [flat_nil] at h
  exact h
theorem EntL.listsT {α : Type} {img : α → List V} {H : Hp} {n : Nat} {l : Addr} {xs : List V} {es : List α} (en : EntL img H xs es) (ok : ImgOk img) (hl : H l = some (.tup xs)) (le : es.length ≤ 1000000) : ListsD (n + 2) H (.ref l) [] :=
  .inr ⟨l, xs, List.replicate xs.length [], rfl, by rw [en.len]; exact le, List.length_replicate .., lists_ents ok en, .inr ⟨hl, (flat_nil _).symm⟩⟩
/-- of a row that is a list or a tuple: itself at most -/
theorem EntL.listsR {α : Type} {img : α → List V} {H : Hp} {n : Nat} {l : Addr} {xs : List V} {es : List α} (en : EntL img H xs es) (ok : ImgOk img) (hl : H l = some (.lst xs) ∨ H l = some (.tup xs)) (le : es.length ≤ 1000000) : ∃ L, ListsD (n + 2) H (.ref l) L ∧ L.length ≤ 1 ∧ ∀ x ∈ L, x = l := by
  rcases hl with hl | hl
  · exact ⟨_, en.lists ok hl le, Nat.le_refl _, fun x m => List.mem_singleton.mp m⟩
  · exact ⟨_, en.listsT ok hl le, Nat.zero_le _, fun x m => absurd m List.not_mem_nil⟩
/-- unlike places that are taken -/
structure Live (L : List Addr) (H : Hp) : Prop where
  nd : L.Nodup
  old : ∀ x ∈ L, ∃ o, H x = some o
theorem Live.nil {H : Hp} : Live [] H := ⟨List.nodup_nil, fun x m => absurd m List.not_mem_nil⟩
theorem Live.new {L : List Addr} {H : Hp} (h : Live L H) {l : Addr} {o : HO} (n : H l = none) : Live (L ++ [l]) (upd H l o) := by
  refine ⟨List.nodup_append.mpr ⟨h.nd, List.pairwise_singleton .., fun a ha b hb e => ?_⟩, fun x m => ?_⟩
  · rw [List.mem_singleton.mp hb] at e
    obtain ⟨o, q⟩ := h.old a ha
    rw [e, n] at q
    cases q
  · rcases List.mem_append.mp m with m | m
    · obtain ⟨o', q⟩ := h.old x m
      exact ⟨o', by rw [upd_ne (ne_of_none q n)]; exact q⟩
    · rw [List.mem_singleton.mp m]
      exact ⟨_, upd_same⟩
/-! ### machines, told with their places -/
def RowE (K : PySem.W.Frag) {α : Type} (img : α → List V) (H : Hp) (l : Addr) (es : List α) : Prop := ∃ xs, Own.RowAt K H l xs ∧ xs.length ≤ 400 ∧ EntL img H xs es
theorem RowE.same [Tabl] {K : PySem.W.Frag} {α : Type} {img : α → List V} {H H' : Hp} {l : Addr} {es : List α} (h : RowE K img H l es) (s : Same H H') : RowE K img H' l es := by
  obtain ⟨xs, h1, h2, h3⟩ := h
  exact ⟨xs, h1.same s, h2, h3.same s⟩
theorem RowE.lst {K : PySem.W.Frag} {α : Type} {img : α → List V} {H : Hp} {l : Addr} {xs : List V} {es : List α} (h : H l = some (.lst xs)) (en : EntL img H xs es) (le : es.length ≤ 400) : RowE K img H l es := ⟨xs, .inl h, by rw [en.len]; exact le, en⟩
theorem RowE.nil {K : PySem.W.Frag} {α : Type} {img : α → List V} {H : Hp} {l : Addr} (h : Own.KT0 K l) : RowE K img H l [] := ⟨[], .inr (.inr ⟨rfl, h⟩), Nat.zero_le _, .nil⟩
structure GoodM (r z : Str) (n : Int) (be : List (Int × Str)) (ae : List EnS.Arc) (ee : List (Int × Str)) : Prop where
  ar : IsAlpha r
  az : IsAlpha z
  n0 : 0 ≤ n
  n64 : n ≤ 64
  gb : ∀ e ∈ be, GoodP z n e
  ga : ∀ e ∈ ae, GoodA r z n e
  ge : ∀ e ∈ ee, GoodP z n e
structure Srt {α : Type} (lt : α → α → Prop) (ds es : List α) : Prop where
  pw : ds.Pairwise lt
  mem : ∀ e, e ∈ ds ↔ e ∈ es
  len : ds.length ≤ es.length
  l4 : ds.length ≤ 400
theorem Srt.eq {α : Type} {lt : α → α → Prop} {ds fs es : List α} (asym : ∀ a b, lt a b → lt b a → False) (h : Srt lt ds es) (k : Srt lt fs ds) : fs = ds := pw_unique asym k.pw h.pw fun y => k.mem y
/-- the machine at m, with its places and what they hold -/
structure MA (C : Addr) (H : Hp) (m : Addr) (r z : Str) (n : Int) (dx b a e : Addr) (bx ax ex : List V) (bd : List (Int × Str)) (ad : List EnS.Arc) (ed : List (Int × Str)) : Prop where
  ins : H m = some (.ins C dx (mfs r z n b a e))
  hb : H b = some (.lst bx)
  ha : H a = some (.lst ax)
  he : H e = some (.lst ex)
  nb : EntL pimg H bx bd
  na : EntL aimg H ax ad
  ne : EntL pimg H ex ed
section
variable {C : Addr} {H H' G : Hp} {m : Addr} {r z : Str} {n : Int} {dx b a e : Addr} {bx ax ex : List V} {bd : List (Int × Str)} {ad : List EnS.Arc} {ed : List (Int × Str)} {be : List (Int × Str)} {ae : List EnS.Arc} {ee : List (Int × Str)}
theorem MA.same [Tabl] (h : MA C H m r z n dx b a e bx ax ex bd ad ed) (s : Same H H') : MA C H' m r z n dx b a e bx ax ex bd ad ed := ⟨s _ _ h.ins, s _ _ h.hb, s _ _ h.ha, s _ _ h.he, h.nb.same s, h.na.same s, h.ne.same s⟩
theorem MA.butl [Tabl] {L : List Addr} (h : MA C H m r z n dx b a e bx ax ex bd ad ed) (k : ButL L H H') (hb : b ∉ L) (ha : a ∉ L) (he : e ∉ L) : MA C H' m r z n dx b a e bx ax ex bd ad ed := ⟨k.ins h.ins, k.row h.hb hb, k.row h.ha ha, k.row h.he he, h.nb.butl k, h.na.butl k, h.ne.butl k⟩
theorem MA.mach (h : MA C H m r z n dx b a e bx ax ex bd ad ed) (sb : Srt EnS.PLt bd be) (sa : Srt EnS.ALt ad ae) (se : Srt EnS.PLt ed ee) (d1 : b ≠ a) (d2 : b ≠ e) (d3 : a ≠ e) : Mach C H m r z n be ae ee :=
  ⟨dx, b, a, e, h.ins, ⟨bx, bd, h.hb, h.nb, sb.pw, sb.mem, sb.len, sb.l4⟩, ⟨ax, ad, h.ha, h.na, sa.pw, sa.mem, sa.len, sa.l4⟩, ⟨ex, ed, h.he, h.ne, se.pw, se.mem, se.len, se.l4⟩, d1, d2, d3⟩
theorem Mach.places (h : Mach C H m r z n be ae ee) (y : Young C G H m) : ∃ dx b a e bx ax ex bd ad ed, MA C H m r z n dx b a e bx ax ex bd ad ed ∧ Srt EnS.PLt bd be ∧ Srt EnS.ALt ad ae ∧ Srt EnS.PLt ed ee ∧ b ≠ a ∧ b ≠ e ∧ a ≠ e ∧ G b = none ∧ G a = none ∧ G e = none := by
  obtain ⟨dx, b, a, e, hm, ⟨bx, bd, hb, nb, pb, mb, lb, b4⟩, ⟨ax, ad, ha, na, pa, ma, la, a4⟩, ⟨ex, ed, he, ne, pe, me, le, e4⟩, d⟩ := h
  obtain ⟨y1, y2, y3⟩ := y _ _ _ _ _ _ _ hm
  exact ⟨dx, b, a, e, bx, ax, ex, bd, ad, ed, ⟨hm, hb, ha, he, nb, na, ne⟩, ⟨pb, mb, lb, b4⟩, ⟨pa, ma, la, a4⟩, ⟨pe, me, le, e4⟩, d.1, d.2.1, d.2.2, y1, y2, y3⟩
theorem Young.back [Tabl] (s : Same G H) (y : Young C H H' m) : Young C G H' m := fun dx r z n b a e h => let ⟨y1, y2, y3⟩ := y dx r z n b a e h; ⟨s.free y1, s.free y2, s.free y3⟩
end
theorem EntL.butN [Tabl] {α : Type} {img : α → List V} {a : Addr} {H H' : Hp} {xs : List V} {es : List α} (h : EntL img H xs es) (k : But a H H') (hn : ∀ zs, H a ≠ some (.tup zs)) : EntL img H' xs es :=
  Paired.mapP h fun _ _ ⟨t, e, q⟩ => ⟨t, e, k _ _ (fun z => hn _ (by rw [← z]; exact q)) q⟩
theorem Sto.butl [Tabl] {L : List Addr} {H H' : Hp} {a c : Addr} (h : Sto H a c) (k : ButL L H H') (na : a ∉ L) (nc : c ∉ L) : Sto H' a c := by
  obtain ⟨ns, i, b, t, s, h1, h2, h3, h4⟩ := h
  exact ⟨ns, i, b, t, s, k.row h1 na, k.row h2 nc, h3, h4⟩
theorem Sto.some {H : Hp} {a c : Addr} (h : Sto H a c) : H a ≠ none ∧ H c ≠ none := by
  obtain ⟨ns, i, b, t, s, h1, h2, h3, h4⟩ := h
  rw [h1, h2]
  exact ⟨fun e => (by cases e), fun e => (by cases e)⟩
theorem Sto.ntup {H : Hp} {a c : Addr} (h : Sto H a c) (zs : List V) : H a ≠ Option.some (.tup zs) := by
  obtain ⟨ns, i, b, t, s, h1, h2, h3, h4⟩ := h
  rw [h1]
  exact fun e => (by cases e)
theorem EntL.deepRow {α : Type} {img : α → List V} {H : Hp} {c l : Addr} {n : Nat} {xs : List V} {es : List α} (h : EntL img H xs es) (ok : ImgOk img) (hc : ∀ zs, H c ≠ some (.tup zs)) (at_ : ∀ e ∈ es, AtomsOk (img e)) (hl : H l = some (.lst xs) ∨ H l = some (.tup xs)) (ne : l ≠ c) (le : es.length ≤ 1000000) : Deep c (n + 2) H (.ref l) :=
  hl.elim (fun q => deep_lst ne q (by rw [h.len]; exact le) (h.deep ok hc at_)) fun q => deep_tup ne q (by rw [h.len]; exact le) (h.deep ok hc at_)
theorem list3 {α : Type} {xs : List α} (h : xs.length = 3) : ∃ a b c, xs = [a, b, c] := by
  match xs, h with
  | [a, b, c], _ => exact ⟨a, b, c, rfl⟩
/-- a list of three told rows -/
structure Told3 (H : Hp) (v t1 t2 t3 : Addr) (x1 x2 x3 : List V) (bd : List (Int × Str)) (ad : List EnS.Arc) (ed : List (Int × Str)) : Prop where
  hv : H v = some (.lst [.ref t1, .ref t2, .ref t3])
  h1 : H t1 = some (.lst x1)
  h2 : H t2 = some (.lst x2)
  h3 : H t3 = some (.lst x3)
  n1 : EntL pimg H x1 bd
  n2 : EntL aimg H x2 ad
  n3 : EntL pimg H x3 ed
section
variable {H H' : Hp} {v t1 t2 t3 u s1 s2 s3 : Addr} {x1 x2 x3 y1 y2 y3 : List V} {bd : List (Int × Str)} {ad : List EnS.Arc} {ed : List (Int × Str)}
theorem Told3.same [Tabl] (h : Told3 H v t1 t2 t3 x1 x2 x3 bd ad ed) (s : Same H H') : Told3 H' v t1 t2 t3 x1 x2 x3 bd ad ed := ⟨s _ _ h.hv, s _ _ h.h1, s _ _ h.h2, s _ _ h.h3, h.n1.same s, h.n2.same s, h.n3.same s⟩
theorem Told3.butl [Tabl] {L : List Addr} (h : Told3 H v t1 t2 t3 x1 x2 x3 bd ad ed) (k : ButL L H H') (nv : v ∉ L) (n1 : t1 ∉ L) (n2 : t2 ∉ L) (n3 : t3 ∉ L) : Told3 H' v t1 t2 t3 x1 x2 x3 bd ad ed := ⟨k.row h.hv nv, k.row h.h1 n1, k.row h.h2 n2, k.row h.h3 n3, h.n1.butl k, h.n2.butl k, h.n3.butl k⟩
theorem Told3.like {n : Nat} (h : Told3 H v t1 t2 t3 x1 x2 x3 bd ad ed) (k : Told3 H u s1 s2 s3 y1 y2 y3 bd ad ed) (lb : bd.length ≤ 400) (la : ad.length ≤ 400) (le : ed.length ≤ 400) : SameD (n + 3) H (.ref v) (.ref u) :=
  .inr ⟨v, u, _, _, rfl, rfl, .inr ⟨h.hv, k.hv⟩, rfl, by show 3 ≤ 1000000; decide, fun i x y ex ey => by
    match i, ex, ey with
    | 0, rfl, rfl => exact rows_samed pimg_ok h.h1 k.h1 h.n1 k.n1 (by omega)
    | 1, rfl, rfl => exact rows_samed aimg_ok h.h2 k.h2 h.n2 k.n2 (by omega)
    | 2, rfl, rfl => exact rows_samed pimg_ok h.h3 k.h3 h.n3 k.n3 (by omega)⟩
/-- its copy -/
theorem Told3.copied {n : Nat} {x : V} (h : Told3 H v t1 t2 t3 x1 x2 x3 bd ad ed) (k : SameD (n + 3) H x (.ref v)) : ∃ u s1 s2 s3 y1 y2 y3, x = .ref u ∧ Told3 H u s1 s2 s3 y1 y2 y3 bd ad ed := by
  obtain ⟨u, us, rfl, hu, l, r⟩ := samed_lst k h.hv
  obtain ⟨a, b, c, rfl⟩ := list3 l
  obtain ⟨s1, y1, rfl, h1, n1⟩ := samed_ents pimg_ok (r 0 _ _ rfl rfl) h.h1 h.n1
  obtain ⟨s2, y2, rfl, h2, n2⟩ := samed_ents aimg_ok (r 1 _ _ rfl rfl) h.h2 h.n2
  obtain ⟨s3, y3, rfl, h3, n3⟩ := samed_ents pimg_ok (r 2 _ _ rfl rfl) h.h3 h.n3
  exact ⟨u, s1, s2, s3, y1, y2, y3, rfl, hu, h1, h2, h3, n1, n2, n3⟩
/-- apart from a list elsewhere -/
theorem Told3.deep {c : Addr} {n : Nat} {r z : Str} {m : Int} (h : Told3 H v t1 t2 t3 x1 x2 x3 bd ad ed) (hc : ∀ zs, H c ≠ some (.tup zs)) (nv : v ≠ c) (n1 : t1 ≠ c) (n2 : t2 ≠ c) (n3 : t3 ≠ c) (g : GoodM r z m bd ad ed) (lb : bd.length ≤ 400) (la : ad.length ≤ 400) (le : ed.length ≤ 400) : Deep c (n + 3) H (.ref v) :=
  deep_lst nv h.hv (by show 3 ≤ 1000000; decide) fun x mx => by
    rcases List.mem_cons.mp mx with e | mx
    · rw [e]; exact h.n1.deepRow pimg_ok hc (fun e m => goodP_atoms (g.gb e m) g.n64) (.inl h.h1) n1 (by omega)
    rcases List.mem_cons.mp mx with e | mx
    · rw [e]; exact h.n2.deepRow aimg_ok hc (fun e m => goodA_atoms (g.ga e m) g.n64) (.inl h.h2) n2 (by omega)
    · rw [List.mem_singleton.mp mx]; exact h.n3.deepRow pimg_ok hc (fun e m => goodP_atoms (g.ge e m) g.n64) (.inl h.h3) n3 (by omega)
theorem Told3.apart {c : Addr} {n : Nat} (h : Told3 H v t1 t2 t3 x1 x2 x3 bd ad ed) (d : Deep c (n + 1) H (.ref v)) : v ≠ c ∧ t1 ≠ c ∧ t2 ≠ c ∧ t3 ≠ c := by
  obtain ⟨d1, d2⟩ := deep_ref d (.inl h.hv)
  have d2 := d2 n rfl
  exact ⟨d1, (deep_ref (d2 _ List.mem_cons_self) (.inl h.h1)).1, (deep_ref (d2 _ (List.mem_cons_of_mem _ List.mem_cons_self)) (.inl h.h2)).1, (deep_ref (d2 _ (List.mem_cons_of_mem _ (List.mem_cons_of_mem _ List.mem_cons_self))) (.inl h.h3)).1⟩
theorem Told3.lists (h : Told3 H v t1 t2 t3 x1 x2 x3 bd ad ed) (lb : bd.length ≤ 400) (la : ad.length ≤ 400) (le : ed.length ≤ 400) : ListsD 4 H (.ref v) [t1, t2, t3, v] :=
  lists_lst (n := 3) (Ls := [[t1], [t2], [t3]]) h.hv (by show 3 ≤ 1000000; decide) rfl fun i x l ex el => by
    match i, ex, el with
    | 0, rfl, rfl => exact h.n1.lists pimg_ok h.h1 (by omega)
    | 1, rfl, rfl => exact h.n2.lists aimg_ok h.h2 (by omega)
    | 2, rfl, rfl => exact h.n3.lists pimg_ok h.h3 (by omega)
end
theorem GoodM.told {r z : Str} {n : Int} {be bd : List (Int × Str)} {ae ad : List EnS.Arc} {ee ed : List (Int × Str)} (g : GoodM r z n be ae ee) (sb : Srt EnS.PLt bd be) (sa : Srt EnS.ALt ad ae) (se : Srt EnS.PLt ed ee) : GoodM r z n bd ad ed :=
  ⟨g.ar, g.az, g.n0, g.n64, fun e m => g.gb e ((sb.mem e).mp m), fun e m => g.ga e ((sa.mem e).mp m), fun e m => g.ge e ((se.mem e).mp m)⟩
theorem Srt.two {α : Type} {lt : α → α → Prop} {ds fs es : List α} (asym : ∀ a b, lt a b → lt b a → False) (h : Srt lt ds es) (k : Srt lt fs es) : fs = ds := pw_unique asym k.pw h.pw fun y => (k.mem y).trans (h.mem y).symm
/-! a term's head laid open -/
theorem un_seq {t u : TS} {D : Ends} {σ : L2.St} {H : Hp} (h : t { D with nx := u D } σ H) : tSeq t u D σ H := h
theorem un_asg {te : TE} {g : TG} {D : Ends} {σ : L2.St} {H : Hp} (h : te σ H fun x H1 => g x σ H1 D.nx) : tAsg te g D σ H := h
theorem un_drop {te : TE} {D : Ends} {σ : L2.St} {H : Hp} (h : te σ H fun _ H1 => D.nx σ H1) : tDrop te D σ H := h
theorem un_ret {te : TE} {D : Ends} {σ : L2.St} {H : Hp} (h : te σ H D.rt) : tRet te D σ H := h
theorem un_if {c : TT} {t u : TS} {D : Ends} {σ : L2.St} {H : Hp} (h : c σ H fun b H1 => if b = true then t D σ H1 else u D σ H1) : tIfS c t u D σ H := h
theorem un_or {t u : TT} {σ : L2.St} {H : Hp} {Q : Bool → Hp → Prop} (h : t σ H fun c H1 => if c = true then Q true H1 else u σ H1 Q) : tOr t u σ H Q := h
theorem un_not {t : TT} {σ : L2.St} {H : Hp} {Q : Bool → Hp → Prop} (h : t σ H fun c H1 => Q (!c) H1) : tNot t σ H Q := h
theorem un_b {t : TE} {σ : L2.St} {H : Hp} {Q : Bool → Hp → Prop} (h : t σ H fun x H1 => ∃ c, x = .bl c ∧ Q c H1) : tB t σ H Q := h
theorem un_andV {ta tb : TE} {σ : L2.St} {H : Hp} {Q : VK} (h : ta σ H fun x H1 => ∃ c, x = .bl c ∧ if c = true then tb σ H1 Q else Q (.bl false) H1) : tAndV ta tb σ H Q := h
theorem un_call {sp : Sp} {dvs : List V} {E : XK} {t : TA} {σ : L2.St} {H : Hp} {Q : VK} (h : t σ H fun vs H1 => sp (vs ++ dvs) H1 Q E) : tCall sp dvs E t σ H Q := h
theorem un_cons {ta : TE} {tr : TA} {σ : L2.St} {H : Hp} {Q : List V → Hp → Prop} (h : ta σ H fun x H1 => tr σ H1 fun xs H2 => Q (x :: xs) H2) : tCons ta tr σ H Q := h
/-! ### drawn rows -/
/-- the list at l, new since H: entries that are good, at most N -/
def RowN {α : Type} (img : α → List V) (G : α → Prop) (a ca : Addr) (H H' : Hp) (l : Addr) (N : Nat) : Prop := ∃ xs es, H l = none ∧ l ≠ a ∧ l ≠ ca ∧ H' l = some (.lst xs) ∧ EntL img H' xs es ∧ (∀ e ∈ es, G e) ∧ xs.length ≤ N
section
variable {α : Type} {img : α → List V} {G : α → Prop} {a ca l : Addr} {H H' H2 : Hp} {N : Nat}
theorem RowN.but [Tabl] (h : RowN img G a ca H H' l N) (k : But a H' H2) (S : Sto H' a ca) : RowN img G a ca H H2 l N := by
  obtain ⟨xs, es, h1, h2, h3, h4, h5, h6, h7⟩ := h
  exact ⟨xs, es, h1, h2, h3, k _ _ h2 h4, h5.butN k S.ntup, h6, h7⟩
theorem RowN.same [Tabl] (h : RowN img G a ca H H' l N) (k : Same H' H2) : RowN img G a ca H H2 l N := by
  obtain ⟨xs, es, h1, h2, h3, h4, h5, h6, h7⟩ := h
  exact ⟨xs, es, h1, h2, h3, k _ _ h4, h5.same k, h6, h7⟩
theorem RowN.le {M : Nat} (h : RowN img G a ca H H' l N) (k : N ≤ M) : RowN img G a ca H H' l M := by
  obtain ⟨xs, es, h1, h2, h3, h4, h5, h6, h7⟩ := h
  exact ⟨xs, es, h1, h2, h3, h4, h5, h6, by omega⟩
theorem RowN.other [Tabl] {p : Addr} {ys zs : List V} (h : RowN img G a ca H H' l N) (ne : l ≠ p) (hp : H' p = some (.lst ys)) : RowN img G a ca H (upd H' p (.lst zs)) l N := by
  obtain ⟨xs, es, h1, h2, h3, h4, h5, h6, h7⟩ := h
  exact ⟨xs, es, h1, h2, h3, by rw [upd_ne ne]; exact h4, h5.butN (But.put hp) (fun zs e => (by rw [hp] at e; cases e)), h6, h7⟩
theorem RowN.nil (ns : H l = none) (na : l ≠ a) (nc : l ≠ ca) (hl : H' l = some (.lst [])) : RowN img G a ca H H' l 0 := ⟨[], [], ns, na, nc, hl, .nil, fun e m => absurd m List.not_mem_nil, Nat.le_refl _⟩
theorem EntL.snoc {xs : List V} {es : List α} {t : Addr} {e : α} (h : EntL img H xs es) (ht : H t = some (.tup (img e))) : EntL img H (xs ++ [.ref t]) (es ++ [e]) := Paired.snoc h ⟨t, rfl, ht⟩
/-- one entry more -/
theorem RowN.push [Tabl] {t : Addr} {e : α} {xs : List V} (h : RowN img G a ca H H' l N) (hl : H' l = some (.lst xs)) (ht : H' t = some (.tup (img e))) (g : G e) : RowN img G a ca H (upd H' l (.lst (xs ++ [.ref t]))) l (N + 1) := by
  obtain ⟨xs', es, h1, h2, h3, h4, h5, h6, h7⟩ := h
  rw [hl] at h4
  cases h4
  refine ⟨_, es ++ [e], h1, h2, h3, upd_same, (h5.snoc ht).butN (But.put hl) (fun zs e => (by rw [hl] at e; cases e)), fun e' m => ?_, by rw [List.length_append]; exact Nat.succ_le_succ h7⟩
  rcases List.mem_append.mp m with m | m
  · exact h6 e' m
  · rw [List.mem_singleton.mp m]
    exact g
theorem RowN.lt (h : RowN img G a ca H H' l N) (k : N < 1000) : ∃ xs, H' l = some (.lst xs) ∧ xs.length < sizeLine ∧ l ≠ a ∧ H l = none ∧ l ≠ ca ∧ xs.length ≤ N := by
  obtain ⟨xs, es, h1, h2, h3, h4, h5, h6, h7⟩ := h
  exact ⟨xs, h4, Nat.lt_of_le_of_lt h7 (Nat.lt_of_lt_of_le k (by decide)), h2, h1, h3, h7⟩
theorem RowN.ne {β : Type} {img' : β → List V} {G' : β → Prop} {l' : Addr} {M : Nat} {G0 : Hp} (h : RowN img G a ca H H' l N) (n : G0 l' = none) (k : ∀ o, H' l = some o → G0 l = some o) : l ≠ l' := fun e => by
  obtain ⟨xs, es, h1, h2, h3, h4, h5, h6, h7⟩ := h
  have := k _ h4
  rw [e, n] at this
  cases this
end
theorem RowN.weak {α : Type} {img : α → List V} {G G' : α → Prop} {a ca l : Addr} {H H' : Hp} {N : Nat} (h : RowN img G a ca H H' l N) (w : ∀ e, G e → G' e) : RowN img G' a ca H H' l N := by
  obtain ⟨xs, es, h1, h2, h3, h4, h5, h6, h7⟩ := h
  exact ⟨xs, es, h1, h2, h3, h4, h5, fun e m => w e (h6 e m), h7⟩
theorem EntL.sub {α : Type} {img : α → List V} {H : Hp} {xs : List V} {es : List α} (h : EntL img H xs es) : ∀ {ys : List V}, (∀ y ∈ ys, y ∈ xs) → ∃ fs, EntL img H ys fs ∧ ∀ e ∈ fs, e ∈ es
  | [], _ => ⟨[], .nil, fun e m => absurd m List.not_mem_nil⟩
  | y :: ys, s => by
    obtain ⟨fs, h1, h2⟩ := EntL.sub h (ys := ys) fun y' m => s y' (List.mem_cons_of_mem _ m)
    obtain ⟨i, hi⟩ := List.getElem?_of_mem (s y List.mem_cons_self)
    obtain ⟨e, t, he, rfl, ht⟩ := h.get hi
    refine ⟨e :: fs, .cons ⟨t, rfl, ht⟩ h1, fun e' m => ?_⟩
    rcases List.mem_cons.mp m with q | m
    · rw [q]
      exact List.mem_of_getElem? he
    · exact h2 e' m
theorem RowN.rep [Tabl] {α : Type} {img : α → List V} {G : α → Prop} {a ca l q : Addr} {H H' H2 : Hp} {N M : Nat} {ys : List V} (h : RowN img G a ca H H' l N) (S : Sto H' a ca) (k : But a H' H2) (hr : ∀ xs, H' l = some (.lst xs) → (∀ y ∈ ys, y ∈ xs) ∧ ys.length ≤ xs.length + M) (nq : H q = none) (qa : q ≠ a) (qc : q ≠ ca) (hq : H2 q = some (.lst ys)) : RowN img G a ca H H2 q (N + M) := by
  obtain ⟨xs, es, h1, h2, h3, h4, h5, h6, h7⟩ := h
  obtain ⟨m, l⟩ := hr xs h4
  obtain ⟨fs, e1, e2⟩ := (h5.butN k S.ntup).sub m
  exact ⟨ys, fs, nq, qa, qc, hq, e1, fun e m => h6 e (e2 e m), by omega⟩
/-- the j-th of three rows -/
def Rk (r z : Str) (n : Int) (a ca : Addr) (H : Hp) (δ : Nat) : Nat → Hp → Addr → Prop
  | 0 => fun H' l => RowN pimg (GoodP z n) a ca H H' l (6 + δ)
  | 1 => fun H' l => RowN aimg (GoodA r z n) a ca H H' l (138 + δ)
  | _ => fun H' l => RowN pimg (GoodP z n) a ca H H' l (6 + δ)
section
variable {r z : Str} {n : Int} {a ca : Addr} {H H' H2 : Hp} {δ : Nat} {l : Addr}
theorem Rk.but [Tabl] (k : But a H' H2) (S : Sto H' a ca) : ∀ {j : Nat}, Rk r z n a ca H δ j H' l → Rk r z n a ca H δ j H2 l
  | 0, h => RowN.but h k S
  | 1, h => RowN.but h k S
  | _ + 2, h => RowN.but h k S
theorem Rk.other [Tabl] {p : Addr} {ys zs : List V} (ne : l ≠ p) (hp : H' p = some (.lst ys)) : ∀ {j : Nat}, Rk r z n a ca H δ j H' l → Rk r z n a ca H δ j (upd H' p (.lst zs)) l
  | 0, h => RowN.other h ne hp
  | 1, h => RowN.other h ne hp
  | _ + 2, h => RowN.other h ne hp
theorem Rk.rep [Tabl] {q : Addr} {M : Nat} {ys : List V} (S : Sto H' a ca) (k : But a H' H2) (hr : ∀ xs, H' l = some (.lst xs) → (∀ y ∈ ys, y ∈ xs) ∧ ys.length ≤ xs.length + M) (nq : H q = none) (qa : q ≠ a) (qc : q ≠ ca) (hq : H2 q = some (.lst ys)) : ∀ {j : Nat}, Rk r z n a ca H 0 j H' l → Rk r z n a ca H M j H2 q
  | 0, h => RowN.rep (N := 6) h S k hr nq qa qc hq
  | 1, h => RowN.rep (N := 138) h S k hr nq qa qc hq
  | _ + 2, h => RowN.rep (N := 6) h S k hr nq qa qc hq
theorem Rk.row : ∀ {j : Nat}, Rk r z n a ca H δ j H' l → H l = none ∧ l ≠ a ∧ l ≠ ca ∧ ∃ xs, H' l = some (.lst xs) ∧ xs.length ≤ 138 + δ
  | 0, ⟨xs, es, h1, h2, h3, h4, h5, h6, h7⟩ => ⟨h1, h2, h3, xs, h4, by omega⟩
  | 1, ⟨xs, es, h1, h2, h3, h4, h5, h6, h7⟩ => ⟨h1, h2, h3, xs, h4, by omega⟩
  | _ + 2, ⟨xs, es, h1, h2, h3, h4, h5, h6, h7⟩ => ⟨h1, h2, h3, xs, h4, by omega⟩
end
/-- three rows -/
structure Three [Tabl] (r z : Str) (n : Int) (a ca : Addr) (H H' : Hp) (hd lk st : Addr) : Prop where
  b : But a H H'
  s : Sto H' a ca
  r1 : RowN pimg (GoodP z n) a ca H H' hd 6
  r2 : RowN aimg (GoodA r z n) a ca H H' lk 138
  r3 : RowN pimg (GoodP z n) a ca H H' st 6
  n1 : hd ≠ lk
  n2 : hd ≠ st
  n3 : lk ≠ st
theorem Three.but [Tabl] {r z : Str} {n : Int} {a ca : Addr} {H H' H2 : Hp} {hd lk st : Addr} (h : Three r z n a ca H H' hd lk st) (k : But a H' H2) (S : Sto H2 a ca) : Three r z n a ca H H2 hd lk st :=
  ⟨h.b.trans k, S, h.r1.but k h.s, h.r2.but k h.s, h.r3.but k h.s, h.n1, h.n2, h.n3⟩
theorem RowN.some {α : Type} {img : α → List V} {G : α → Prop} {a ca l : Addr} {H H' : Hp} {N : Nat} (h : RowN img G a ca H H' l N) {p : Addr} (n : H' p = none) : l ≠ p := fun e => by
  obtain ⟨xs, es, h1, h2, h3, h4, h5, h6, h7⟩ := h
  rw [e, n] at h4
  cases h4
/-- the drawn parts of a machine -/
structure PD (a : Addr) (H : Hp) (p : Addr) (r z : Str) (n : Nat) (be : List (Int × Str)) (ae : List EnS.Arc) (ee : List (Int × Str)) (b c e : Addr) (bx ax ex : List V) : Prop where
  g : GoodM r z n be ae ee
  hp : H p = some (.lst [.str r, .str z, .int n, .ref b, .ref c, .ref e])
  hb : H b = some (.lst bx)
  hc : H c = some (.lst ax)
  he : H e = some (.lst ex)
  lb : bx.length ≤ 400
  la : ax.length ≤ 400
  le : ex.length ≤ 400
  eb : EntL pimg H bx be
  ea : EntL aimg H ax ae
  ee' : EntL pimg H ex ee
  pa : p ≠ a
  ba : b ≠ a
  ca : c ≠ a
  na : e ≠ a
section
variable {a p b c e : Addr} {H H' : Hp} {r z : Str} {n : Nat} {be : List (Int × Str)} {ae : List EnS.Arc} {ee : List (Int × Str)} {bx ax ex : List V}
theorem PD.but [Tabl] {s : Addr} (h : PD a H p r z n be ae ee b c e bx ax ex) (k : But a H H') (S : Sto H a s) : PD a H' p r z n be ae ee b c e bx ax ex :=
  ⟨h.g, k _ _ h.pa h.hp, k _ _ h.ba h.hb, k _ _ h.ca h.hc, k _ _ h.na h.he, h.lb, h.la, h.le, h.eb.butN k S.ntup, h.ea.butN k S.ntup, h.ee'.butN k S.ntup, h.pa, h.ba, h.ca, h.na⟩
theorem PD.same [Tabl] (h : PD a H p r z n be ae ee b c e bx ax ex) (k : Same H H') : PD a H' p r z n be ae ee b c e bx ax ex :=
  ⟨h.g, k _ _ h.hp, k _ _ h.hb, k _ _ h.hc, k _ _ h.he, h.lb, h.la, h.le, h.eb.same k, h.ea.same k, h.ee'.same k, h.pa, h.ba, h.ca, h.na⟩
theorem PD.parts (h : PD a H p r z n be ae ee b c e bx ax ex) : Parts H p r z n be ae ee :=
  ⟨b, c, e, bx, ax, ex, h.hp, h.hb, h.hc, h.he, h.g.ar, h.g.az, h.g.n0, h.g.n64, h.lb, h.la, h.le, h.eb, h.ea, h.ee', h.g.gb, h.g.ga, h.g.ge⟩
theorem MA.but [Tabl] {C m dx u v w s : Addr} {z' : Str} {m' : Int} {bd : List (Int × Str)} {ad : List EnS.Arc} {ed : List (Int × Str)} (h : MA C H m r z' m' dx u v w bx ax ex bd ad ed) (k : But a H H') (S : Sto H a s) (h1 : u ≠ a) (h2 : v ≠ a) (h3 : w ≠ a) : MA C H' m r z' m' dx u v w bx ax ex bd ad ed := by
  have hm : m ≠ a := fun e => by
    obtain ⟨ns, i, b, t, x, q, _⟩ := S
    have := h.ins
    rw [e, q] at this
    cases this
  exact ⟨k _ _ hm h.ins, k _ _ h1 h.hb, k _ _ h2 h.ha, k _ _ h3 h.he, h.nb.butN k S.ntup, h.na.butN k S.ntup, h.ne.butN k S.ntup⟩
end
end Lb

namespace Lb
open PySem PySem.Spec PyProof.Rows L2
/-! ### what is refused -/
/-- an error of the class at C with those fields, at any later heap -/
def RaisedF [Tabl] (H : Hp) (C : Addr) (fs : List (Str × V)) (E : XK) : Prop := ∀ (d : Addr) (H1 H' : Hp), Same H H1 → H1 d = none → H' = upd H1 d (.xd fs) → E (.ref C) (some d) H'
theorem RaisedF.same [Tabl] {H H1 : Hp} {C : Addr} {fs : List (Str × V)} {E : XK} (r : RaisedF H C fs E) (s : Same H H1) : RaisedF H1 C fs E := fun d H2 H' s2 n e => r d H2 H' (s.trans s2) n e
/-- what is wrong with a row of entries: it is none, it is too long, one of it is wrong -/
inductive Flt where
  | shape
  | large
  | at (k : Nat)
def Flt.cls (cE cL : Addr) : Flt → Addr
  | .large => cL
  | _ => cE
def Flt.fs (pl : Str) : Flt → List (Str × V)
  | .shape => [("index", .non), ("place", .str pl)]
  | .large => [("limit", .int 400), ("what", .str pl)]
  | .at k => [("index", .int (k : Nat)), ("place", .str pl)]
def FltAt (K : PySem.W.Frag) (Ok : Hp → V → Prop) (H : Hp) (v : V) : Flt → Prop
  | .shape => plainV v = true
  | .large => ∃ p xs, v = .ref p ∧ Own.RowAt K H p xs ∧ 400 < xs.length ∧ xs.length ≤ 1000000
  | .at k => ∃ p xs x, v = .ref p ∧ Own.RowAt K H p xs ∧ xs.length ≤ 400 ∧ xs[k]? = some x ∧ ¬ Ok H x ∧ ∀ j y, j ≤ k → xs[j]? = some y → (j < k → Ok H y) ∧ Shal H y ∧ Inner H y
theorem shal_row {H : Hp} {t : Addr} (h : Shal H (.ref t)) : ∃ xs, H t = some (.lst xs) ∨ H t = some (.tup xs) := by
  rcases h with ⟨x, e, _⟩ | e | ⟨b, e⟩ | ⟨i, e⟩ | ⟨p, ys, e, o⟩
  · cases e
  · cases e
  · cases e
  · cases e
  · cases e
    exact ⟨ys, o⟩
theorem tup_back [Tabl] {H H' : Hp} {t : Addr} {xs : List V} (s : Same H H') (h : Shal H (.ref t)) (k : H' t = some (.tup xs)) : H t = some (.tup xs) := by
  obtain ⟨ys, o | o⟩ := shal_row h
  · rw [s _ _ o] at k
    cases k
  · rw [s _ _ o] at k
    cases k
    exact o
theorem PairV.back [Tabl] {H H' : Hp} {z : Str} {n : Int} {v : V} (s : Same H H') (sh : Shal H v) (h : PairV H' z n v) : PairV H z n v := by
  obtain ⟨t, i, x, rfl, ht, r⟩ := h
  exact ⟨t, i, x, rfl, tup_back s sh ht, r⟩
theorem PairV.same [Tabl] {H H' : Hp} {z : Str} {n : Int} {v : V} (s : Same H H') (h : PairV H z n v) : PairV H' z n v := by
  obtain ⟨t, i, x, rfl, ht, r⟩ := h
  exact ⟨t, i, x, rfl, s _ _ ht, r⟩
theorem ArcV.back [Tabl] {H H' : Hp} {r z : Str} {n : Int} {v : V} (s : Same H H') (sh : Shal H v) (h : ArcV H' r z n v) : ArcV H r z n v := by
  obtain ⟨t, i, l, x, j, rfl, ht, q⟩ := h
  exact ⟨t, i, l, x, j, rfl, tup_back s sh ht, q⟩
theorem ArcV.same [Tabl] {H H' : Hp} {r z : Str} {n : Int} {v : V} (s : Same H H') (h : ArcV H r z n v) : ArcV H' r z n v := by
  obtain ⟨t, i, l, x, j, rfl, ht, q⟩ := h
  exact ⟨t, i, l, x, j, rfl, s _ _ ht, q⟩
/-- lists and tuples stand -/
structure Kt (H H' : Hp) : Prop where
  l : ∀ t xs, H t = some (.lst xs) → H' t = some (.lst xs)
  t : ∀ t xs, H t = some (.tup xs) → H' t = some (.tup xs)
theorem Kt.ins [Tabl] {m C dx : Addr} {fs : List (Str × V)} {H H' : Hp} (k : But m H H') (hm : H m = some (.ins C dx fs)) : Kt H H' :=
  ⟨fun t xs h => k _ _ (fun e => by rw [e, hm] at h; cases h) h, fun t xs h => k _ _ (fun e => by rw [e, hm] at h; cases h) h⟩
section
variable {H H' : Hp} {v : V}
theorem Shal.kt (h : Shal H v) (k : Kt H H') : Shal H' v := by
  rcases h with h | h | h | h | ⟨p, ys, e, o⟩
  · exact .inl h
  · exact .inr (.inl h)
  · exact .inr (.inr (.inl h))
  · exact .inr (.inr (.inr (.inl h)))
  · exact .inr (.inr (.inr (.inr ⟨p, ys, e, o.imp (k.l _ _) (k.t _ _)⟩)))
theorem kt_back {t : Addr} {xs : List V} (k : Kt H H') (h : Shal H (.ref t)) (g : H' t = some (.tup xs)) : H t = some (.tup xs) := by
  obtain ⟨ys, o | o⟩ := shal_row h
  · rw [k.l _ _ o] at g
    cases g
  · rw [k.t _ _ o] at g
    cases g
    exact o
theorem Inner.kt (sh : Shal H v) (h : Inner H v) (k : Kt H H') : Inner H' v := fun t xs e ht y hy => by
  subst e
  exact (h t xs rfl (kt_back k sh ht) y hy).kt k
theorem PairV.kt {z : Str} {n : Int} (k : Kt H H') (sh : Shal H v) : PairV H' z n v ↔ PairV H z n v := by
  constructor
  · rintro ⟨t, i, x, rfl, ht, r⟩
    exact ⟨t, i, x, rfl, kt_back k sh ht, r⟩
  · rintro ⟨t, i, x, rfl, ht, r⟩
    exact ⟨t, i, x, rfl, k.t _ _ ht, r⟩
theorem ArcV.kt {r z : Str} {n : Int} (k : Kt H H') (sh : Shal H v) : ArcV H' r z n v ↔ ArcV H r z n v := by
  constructor
  · rintro ⟨t, i, l, x, j, rfl, ht, q⟩
    exact ⟨t, i, l, x, j, rfl, kt_back k sh ht, q⟩
  · rintro ⟨t, i, l, x, j, rfl, ht, q⟩
    exact ⟨t, i, l, x, j, rfl, k.t _ _ ht, q⟩
theorem RowAt.kt {K : PySem.W.Frag} {p : Addr} {xs : List V} (h : Own.RowAt K H p xs) (k : Kt H H') : Own.RowAt K H' p xs := h.imp (k.l _ _) fun h => h.imp (k.t _ _) id
theorem FltAt.kt {K : PySem.W.Frag} {Ok : Hp → V → Prop} (ok : ∀ x, Shal H x → (Ok H' x ↔ Ok H x)) (k : Kt H H') : ∀ {f : Flt}, FltAt K Ok H v f → FltAt K Ok H' v f
  | .shape, h => h
  | .large, ⟨p, xs, e, h, l⟩ => ⟨p, xs, e, RowAt.kt h k, l⟩
  | .at j, ⟨p, xs, x, e, h, l, hx, bad, bef⟩ => by
    refine ⟨p, xs, x, e, RowAt.kt h k, l, hx, fun o => bad ((ok x (bef j x (Nat.le_refl _) hx).2.1).mp o), fun i y hi hy => ?_⟩
    obtain ⟨b1, b2, b3⟩ := bef i y hi hy
    exact ⟨fun z => (ok y b2).mpr (b1 z), b2.kt k, b3.kt b2 k⟩
end
/-- what is wrong with what a machine is made of -/
inductive MF where
  | read
  | write
  | size
  | begins (f : Flt)
  | arcs (f : Flt)
  | ends (f : Flt)
def MF.cls (cL cN cE cT : Addr) : MF → Addr
  | .read => cL
  | .write => cL
  | .size => cN
  | .begins f => f.cls cE cT
  | .arcs f => f.cls cE cT
  | .ends f => f.cls cE cT
def MF.fs (rv zv nv : V) : MF → List (Str × V)
  | .read => [("value", rv)]
  | .write => [("value", zv)]
  | .size => [("value", nv)]
  | .begins f => f.fs (Str.ofString "begins")
  | .arcs f => f.fs (Str.ofString "arcs")
  | .ends f => f.fs (Str.ofString "ends")
def Base (rv zv nv : V) (r z : Str) (n : Int) : Prop := rv = .str r ∧ zv = .str z ∧ nv = .int n ∧ IsAlpha r ∧ IsAlpha z ∧ 0 ≤ n ∧ n ≤ 64
def MFAt (K : PySem.W.Frag) (H : Hp) (rv zv nv bv av ev : V) : MF → Prop
  | .read => Shal H rv ∧ ¬ AlphaV rv
  | .write => (∃ r, rv = .str r ∧ IsAlpha r) ∧ Shal H zv ∧ ¬ AlphaV zv
  | .size => (∃ r, rv = .str r ∧ IsAlpha r) ∧ (∃ z, zv = .str z ∧ IsAlpha z) ∧ Shal H nv ∧ inR nv 0 64 = false
  | .begins f => ∃ r z n, Base rv zv nv r z n ∧ FltAt K (fun H v => PairV H z n v) H bv f
  | .arcs f => ∃ r z n b be, Base rv zv nv r z n ∧ bv = .ref b ∧ RowE K pimg H b be ∧ (∀ e ∈ be, GoodP z n e) ∧ FltAt K (fun H v => ArcV H r z n v) H av f
  | .ends f => ∃ r z n b be a ae, Base rv zv nv r z n ∧ bv = .ref b ∧ RowE K pimg H b be ∧ (∀ e ∈ be, GoodP z n e) ∧ av = .ref a ∧ RowE K aimg H a ae ∧ (∀ e ∈ ae, GoodA r z n e) ∧ FltAt K (fun H v => PairV H z n v) H ev f
theorem RowE.kt {K : PySem.W.Frag} {α : Type} {img : α → List V} {H H' : Hp} {l : Addr} {es : List α} (h : RowE K img H l es) (k : Kt H H') : RowE K img H' l es := by
  obtain ⟨xs, h1, h2, h3⟩ := h
  exact ⟨xs, RowAt.kt h1 k, h2, Paired.mapP h3 fun _ _ ⟨t, e, q⟩ => ⟨t, e, k.t _ _ q⟩⟩
theorem MFAt.kt {K : PySem.W.Frag} {H H' : Hp} {rv zv nv bv av ev : V} (k : Kt H H') : ∀ {f : MF}, MFAt K H rv zv nv bv av ev f → MFAt K H' rv zv nv bv av ev f
  | .read, ⟨h, b⟩ => ⟨h.kt k, b⟩
  | .write, ⟨a, h, b⟩ => ⟨a, h.kt k, b⟩
  | .size, ⟨a, c, h, b⟩ => ⟨a, c, h.kt k, b⟩
  | .begins f, ⟨r, z, n, b, h⟩ => ⟨r, z, n, b, h.kt (fun _ s => PairV.kt k s) k⟩
  | .arcs f, ⟨r, z, n, b, be, h1, h2, h3, h4, h⟩ => ⟨r, z, n, b, be, h1, h2, h3.kt k, h4, h.kt (fun _ s => ArcV.kt k s) k⟩
  | .ends f, ⟨r, z, n, b, be, a, ae, h1, h2, h3, h4, h5, h6, h7, h⟩ => ⟨r, z, n, b, be, a, ae, h1, h2, h3.kt k, h4, h5, h6.kt k, h7, h.kt (fun _ s => PairV.kt k s) k⟩
/-- it is refused with that -/
def RefusedM [Tabl] (m : Addr) (H : Hp) (C : Addr) (fs : List (Str × V)) (E : XK) : Prop := ∀ (d : Addr) (H1 H' : Hp), But m H H1 → H1 d = none → H' = upd H1 d (.xd fs) → E (.ref C) (some d) H'
theorem RefusedM.raisedF [Tabl] {m C : Addr} {H H1 : Hp} {fs : List (Str × V)} {E : XK} (r : RefusedM m H C fs E) (k : But m H H1) : RaisedF H1 C fs E := fun d H2 H' s n e => r d H2 H' (k.trans (But.same s)) n e
/-- drawn entries, also over no states -/
def EP (z : Str) (n : Int) (e : Int × Str) : Prop := 0 ≤ e.1 ∧ e.1 ≤ 1000 ∧ (1 ≤ n → e.1 ≤ n - 1) ∧ Over z e.2 ∧ e.2.length ≤ 400
def EA (r z : Str) (n : Int) (e : EnS.Arc) : Prop := 0 ≤ e.1 ∧ e.1 ≤ 1000 ∧ (1 ≤ n → e.1 ≤ n - 1) ∧ e.2.1.length = 1 ∧ Over r e.2.1 ∧ Over z e.2.2.1 ∧ e.2.2.1.length ≤ 100 ∧ 0 ≤ e.2.2.2 ∧ e.2.2.2 ≤ 1000 ∧ (1 ≤ n → e.2.2.2 ≤ n - 1)
theorem EP.good {z : Str} {n : Int} {e : Int × Str} (h : EP z n e) (k : 1 ≤ n) : GoodP z n e := ⟨h.1, h.2.2.1 k, h.2.2.2.1, by have := h.2.2.2.2; omega⟩
theorem EA.good {r z : Str} {n : Int} {e : EnS.Arc} (h : EA r z n e) (k : 1 ≤ n) : GoodA r z n e := by
  obtain ⟨h1, h2, h3, h4, h5, h6, h7, h8, h9, h10⟩ := h
  exact ⟨h1, h3 k, h4, h5, h6, by omega, h8, h10 k⟩
theorem lookup2 {k j : Str} {u v : V} (h : (k == j) = false) : List.lookup k [(j, u), (k, v)] = some v := by
  rw [List.lookup_cons, h]
  show List.lookup k [(k, v)] = some v
  rw [List.lookup_cons, beq_self_eq_true]
/-! ### wrong texts -/
theorem not_over {z x : Str} {c : Nat} (hc : c ∈ cs x) (h : c ∉ cs z) : ¬ Over z x := fun o => h (o c hc)
theorem low_out {z : Str} (al : IsAlpha z) {c : Nat} (h : c < 97 ∨ 122 < c) : c ∉ cs z := fun m => by
  have := al.low c m
  omega
theorem up_out : ∀ c, c < 128 → 97 ≤ c → c ≤ 122 → ∃ d, Txt.upper ⟨#[c]⟩ = ⟨#[d]⟩ ∧ d < 97 := fun c h1 h2 h3 => by
  have e := PyProof.Rows.upper_ascii (x := ⟨#[c]⟩) (fun d m => by rw [show d = c from List.mem_singleton.mp m]; exact h1)
  refine ⟨PyProof.Rows.up1 c, by rw [e]; simp, ?_⟩
  have key : ∀ c, c < 123 → 97 ≤ c → PyProof.Rows.up1 c < 97 := by decide +kernel
  exact key c (by omega) h2
theorem Deep.shal_in {a : Addr} {H : Hp} {n : Nat} {v : V} (h : Deep a n H v) : Inner H v := fun t xs e ht y hy => by
  subst e
  cases n with
  | zero =>
    rcases h with ⟨pl, _⟩ | ⟨p, ys, e, _, o, _, r⟩
    · cases pl
    · cases e
      have := same_row o (.inr ht)
      subst this
      exact (r y hy).elim
  | succ n =>
    rcases h with ⟨pl, _⟩ | ⟨p, ys, e, _, o, _, r⟩
    · cases pl
    · cases e
      have := same_row o (.inr ht)
      subst this
      exact (r y hy).shal
/-- atoms in a list or a tuple of one -/
theorem deep_one {a p : Addr} {H : Hp} {x : V} (h : H p = some (.lst [x]) ∨ H p = some (.tup [x])) (ne : p ≠ a) (d : ∀ n, Deep a n H x) {n : Nat} : Deep a (n + 1) H (.ref p) :=
  .inr ⟨p, [x], rfl, ne, h, by show 1 ≤ 1000000; decide, fun y m => by rw [List.mem_singleton.mp m]; exact d n⟩
/-! ### the flat keys of entries -/
def okeyP (i : Int) (x : Str) : PyData := .tuple [.int i, .int ((x.length : Nat) : Int), .str x]
def okeyA (i : Int) (l x : Str) (j : Int) : PyData := .tuple [.int i, .str l, .int ((x.length : Nat) : Int), .str x, .int j]
theorem kLt_self (x : Str) : MinQ.kLt x x = false := by
  cases h : MinQ.kLt x x with
  | false => rfl
  | true => exact (bef_irrefl (MinQ.kLt_true.mp h)).elim
theorem lt_okeyP (i : Int) (x : Str) (j : Int) (y : Str) : PySem.W.dataLt (okeyP i x) (okeyP j y) = PySem.W.dataLt (EnS.pkey i x) (EnS.pkey j y) := by
  unfold okeyP EnS.pkey
  rw [PySem.W.dataLt_tuple, PySem.W.dataLt_cons (EnS.alike_ii _ _), PySem.W.dataLt_cons (EnS.alike_ii _ _), PySem.W.dataLt_cons (EnS.alike_ss _ _), PySem.W.dataLt_pair (EnS.alike_ii _ _) (EnS.alike_w _ _), EnS.lt_w, PySem.W.dataLt_int, PySem.W.dataLt_int, PySem.W.dataLt_str]
  by_cases hi : i = j
  · rw [if_pos ((EnS.eqv_ii _ _).mpr hi), if_pos ((EnS.eqv_ii _ _).mpr hi)]
    by_cases hx : x = y
    · subst hx
      rw [if_pos ((EnS.eqv_ii _ _).mpr rfl), if_pos ((EnS.eqv_ss _ _).mpr rfl), if_pos ((EnS.eqv_w _ _).mpr rfl)]
      rfl
    · rw [if_neg (fun z => hx ((EnS.eqv_w _ _).mp z)), if_neg (fun z => hx ((EnS.eqv_ss _ _).mp z))]
      unfold MinQ.kLt
      by_cases h : x.length = y.length
      · rw [if_pos ((EnS.eqv_ii _ _).mpr (by rw [h])), if_pos h]
      · rw [if_neg (fun z => h (by have := (EnS.eqv_ii _ _).mp z; omega)), if_neg h]
        exact decide_eq_decide.mpr (by omega)
  · rw [if_neg (fun z => hi ((EnS.eqv_ii _ _).mp z)), if_neg (fun z => hi ((EnS.eqv_ii _ _).mp z))]
theorem lt_okeyA (i : Int) (l x : Str) (j : Int) (i' : Int) (l' x' : Str) (j' : Int) : PySem.W.dataLt (okeyA i l x j) (okeyA i' l' x' j') = PySem.W.dataLt (EnS.akey i l x j) (EnS.akey i' l' x' j') := by
  unfold okeyA EnS.akey
  rw [PySem.W.dataLt_tuple, PySem.W.dataLt_cons (EnS.alike_ii _ _), PySem.W.dataLt_cons (EnS.alike_ss _ _), PySem.W.dataLt_cons (EnS.alike_ii _ _), PySem.W.dataLt_cons (EnS.alike_ss _ _), PySem.W.dataLt_cons (EnS.alike_ii _ _), PySem.W.dataLt_tuple, PySem.W.dataLt_cons (EnS.alike_ii _ _), PySem.W.dataLt_cons (EnS.alike_ss _ _), PySem.W.dataLt_cons (EnS.alike_w _ _), PySem.W.dataLt_cons (EnS.alike_ii _ _), EnS.lt_w]
  by_cases hi : i = i'
  case neg => rw [if_neg (fun z => hi ((EnS.eqv_ii _ _).mp z)), if_neg (fun z => hi ((EnS.eqv_ii _ _).mp z))]
  rw [if_pos ((EnS.eqv_ii _ _).mpr hi), if_pos ((EnS.eqv_ii _ _).mpr hi)]
  by_cases hl : l = l'
  case neg => rw [if_neg (fun z => hl ((EnS.eqv_ss _ _).mp z)), if_neg (fun z => hl ((EnS.eqv_ss _ _).mp z))]
  rw [if_pos ((EnS.eqv_ss _ _).mpr hl), if_pos ((EnS.eqv_ss _ _).mpr hl)]
  by_cases hx : x = x'
  · subst hx
    rw [if_pos ((EnS.eqv_ii _ _).mpr rfl), if_pos ((EnS.eqv_ss _ _).mpr rfl), if_pos ((EnS.eqv_w _ _).mpr rfl)]
  · rw [if_neg (fun z => hx ((EnS.eqv_w _ _).mp z)), if_neg (fun z => hx ((EnS.eqv_ss _ _).mp z)), PySem.W.dataLt_int, PySem.W.dataLt_str]
    unfold MinQ.kLt
    by_cases h : x.length = x'.length
    · rw [if_pos ((EnS.eqv_ii _ _).mpr (by rw [h])), if_pos h]
    · rw [if_neg (fun z => h (by have := (EnS.eqv_ii _ _).mp z; omega)), if_neg h]
      exact decide_eq_decide.mpr (by omega)
def relO (H : Hp) (v : V) (d : PyData) : Prop := (∃ (t : Addr) (i : Int) (x : Str), v = .ref t ∧ H t = some (.tup [.int i, .str x]) ∧ x.length ≤ 1000000 ∧ d = okeyP i x) ∨
  ∃ (t : Addr) (i : Int) (l x : Str) (j : Int), v = .ref t ∧ H t = some (.tup [.int i, .str l, .str x, .int j]) ∧ x.length ≤ 1000000 ∧ d = okeyA i l x j
theorem relO_same [Tabl] (H H' : Hp) (x : V) (d : PyData) (s : Same H H') (h : relO H x d) : relO H' x d := by
  rcases h with ⟨t, i, x, e, ht, le, ed⟩ | ⟨t, i, l, x, j, e, ht, le, ed⟩
  · exact .inl ⟨t, i, x, e, s _ _ ht, le, ed⟩
  · exact .inr ⟨t, i, l, x, j, e, s _ _ ht, le, ed⟩
theorem alike_okeyP (i : Int) (x : Str) (j : Int) (y : Str) : PySem.W.alike (okeyP i x) (okeyP j y) = true := by simp [okeyP, PySem.W.alike, PySem.W.alikeAll]
theorem alike_okeyA (i : Int) (l x : Str) (j : Int) (i' : Int) (l' x' : Str) (j' : Int) : PySem.W.alike (okeyA i l x j) (okeyA i' l' x' j') = true := by simp [okeyA, PySem.W.alike, PySem.W.alikeAll]
theorem depth_okeyP (i : Int) (x : Str) : (okeyP i x).depth ≤ 16 := by simp [okeyP, PyData.depth, PyData.depthAll]
theorem depth_okeyA (i : Int) (l x : Str) (j : Int) : (okeyA i l x j).depth ≤ 16 := by simp [okeyA, PyData.depth, PyData.depthAll]
theorem op_neDK {X : Cx} (K : PySem.W.Frag) (h : X.K = K) (hu : X.A.units + 64 < cLine) : OpR X (compareOp .NotEq) (rNeD K) := by
  rw [← h]
  exact op_neD hu
/-! ### sorted, and each once -/
def kd : L2.Key → PyData
  | .inl i => .int i
  | .inr x => .str x
def kdata (k : List L2.Key) : PyData := .tuple (k.map kd)
theorem eqv_kd : ∀ a b : L2.Key, PyData.eqv (kd a) (kd b) = true ↔ a = b
  | .inl i, .inl j => (EnS.eqv_ii i j).trans ⟨fun h => by rw [h], fun h => by cases h; rfl⟩
  | .inr x, .inr y => (EnS.eqv_ss x y).trans ⟨fun h => by rw [h], fun h => by cases h; rfl⟩
  | .inl i, .inr y => ⟨fun h => by simp [kd, PyData.eqv] at h, fun h => by cases h⟩
  | .inr x, .inl j => ⟨fun h => by simp [kd, PyData.eqv] at h, fun h => by cases h⟩
theorem eqv_kall : ∀ a b : List L2.Key, PyData.eqvAll (a.map kd) (b.map kd) = true ↔ a = b
  | [], [] => ⟨fun _ => rfl, fun _ => by simp [PyData.eqvAll]⟩
  | [], b :: bs => ⟨fun h => by simp [PyData.eqvAll] at h, fun h => by cases h⟩
  | a :: as, [] => ⟨fun h => by simp [PyData.eqvAll] at h, fun h => by cases h⟩
  | a :: as, b :: bs => by
    rw [List.map_cons, List.map_cons, PyData.eqvAll, Bool.and_eq_true, eqv_kd, eqv_kall as bs]
    exact ⟨fun ⟨h1, h2⟩ => by rw [h1, h2], fun h => by cases h; exact ⟨rfl, rfl⟩⟩
theorem eqv_kdata (a b : List L2.Key) : PyData.eqv (kdata a) (kdata b) = true ↔ a = b := by
  unfold kdata
  rw [PyData.eqv]
  exact eqv_kall a b
theorem dp_kall {K : PySem.W.Frag} {H : Hp} : ∀ k : List L2.Key, DpAll K H (k.map kV) (k.map kd)
  | [] => .nil
  | .inl i :: k => .cons (.int i) (dp_kall k)
  | .inr x :: k => .cons (.str x) (dp_kall k)
theorem dp_kdata {K : PySem.W.Frag} {H : Hp} {t : Addr} {k : List L2.Key} (h : H t = some (.tup (kimg k))) : Dp K H (.ref t) (kdata k) := .tup (.inl (.inl h)) (dp_kall k)
/-- the order of keys -/
def KLt (k k' : List L2.Key) : Prop := (∃ e f, k = ppk e ∧ k' = ppk f ∧ EnS.PLt e f) ∨ ∃ e f, k = apk e ∧ k' = apk f ∧ EnS.ALt e f
theorem ppk_apk {e : Int × Str} {f : EnS.Arc} (h : ppk e = apk f) : False := by
  have := congrArg List.length h
  cases this
theorem klt_asym (a b : List L2.Key) (h : KLt a b) (k : KLt b a) : False := by
  rcases h with ⟨e, f, rfl, rfl, h⟩ | ⟨e, f, rfl, rfl, h⟩ <;> rcases k with ⟨e', f', h1, h2, k⟩ | ⟨e', f', h1, h2, k⟩
  · rw [← ppk_inj _ _ h1, ← ppk_inj _ _ h2] at k
    exact plt_asym _ _ h k
  · exact ppk_apk h1
  · exact ppk_apk h1.symm
  · rw [← apk_inj _ _ h1, ← apk_inj _ _ h2] at k
    exact alt_asym _ _ h k
/-- what sorted makes of a row -/
structure SortK (H : Hp) (l : Addr) (ks : List (List L2.Key)) (xs : List V) (key : V → PyData) (fs : List (List L2.Key)) : Prop where
  row : H l = some (.lst xs)
  rel : ∀ x ∈ xs, relO H x (key x)
  al : PySem.W.AllAlike (xs.map key)
  so : PySem.W.Sortable (xs.map key)
  dp : ∀ x ∈ xs, (key x).depth ≤ 16
  ent : EntL kimg H (xs.mergeSort (PySem.W.dataLe false key)) fs
  pw : fs.Pairwise fun a b => a = b ∨ KLt a b
  mem : ∀ e, e ∈ fs ↔ e ∈ ks
  len : xs.length ≤ 400
  sh : ∀ k ∈ fs, SeqAt.shaped (kdata k) = true
theorem SortK.pairs {H : Hp} {l : Addr} {xs : List V} {es : List (Int × Str)} (hl : H l = some (.lst xs)) (en : EntL pimg H xs es) (le : xs.length ≤ 400) (b : ∀ e ∈ es, e.2.length ≤ 400) (sh : ∀ e ∈ es, SeqAt.shaped (kdata (ppk e)) = true) : ∃ key fs, SortK H l (es.map ppk) xs key fs := by
  have dat := fun t e => pdec_at (H := H) t e
  have of : ∀ v ∈ xs, ∃ e t, e ∈ es ∧ v = .ref t ∧ H t = some (.tup (pimg e)) := fun v hv => by
    obtain ⟨i, hi⟩ := List.getElem?_of_mem hv
    obtain ⟨e, t, he, ev, ht⟩ := en.get hi
    exact ⟨e, t, List.mem_of_getElem? he, ev, ht⟩
  obtain ⟨e1, en2⟩ := en.perm dat (List.mergeSort_perm xs (PySem.W.dataLe false fun v => okeyP (pdec H v).1 (pdec H v).2))
  have pm := (List.mergeSort_perm xs (PySem.W.dataLe false fun v => okeyP (pdec H v).1 (pdec H v).2)).map (pdec H)
  rw [← e1] at pm
  refine ⟨fun v => okeyP (pdec H v).1 (pdec H v).2, ((xs.mergeSort (PySem.W.dataLe false fun v => okeyP (pdec H v).1 (pdec H v).2)).map (pdec H)).map ppk, hl, fun v hv => ?_, fun d hd d' hd' => ?_, .inl fun d hd => ?_, fun v hv => depth_okeyP _ _, en2.keys ppk fun _ => rfl, ?_, mem_map_inj fun e => pm.mem_iff, le, fun k hk => ?_⟩
  · obtain ⟨e, t, he, rfl, ht⟩ := of v hv
    exact .inl ⟨t, e.1, e.2, rfl, ht, Nat.le_trans (b e he) (by decide), by rw [dat t e ht]⟩
  · obtain ⟨v, _, rfl⟩ := List.mem_map.mp hd
    obtain ⟨v', _, rfl⟩ := List.mem_map.mp hd'
    exact alike_okeyP _ _ _ _
  · obtain ⟨v, _, rfl⟩ := List.mem_map.mp hd
    exact ⟨_, _, rfl⟩
  · rw [List.pairwise_map, List.pairwise_map]
    refine (EnS.sort_pair (fun v => okeyP (pdec H v).1 (pdec H v).2) xs).imp fun {a b} h => ?_
    rw [lt_okeyP] at h
    by_cases e : pdec H a = pdec H b
    · exact .inl (by rw [e])
    · exact .inr (.inl ⟨_, _, rfl, rfl, EnS.le_pkey h e⟩)
  · obtain ⟨e, he, rfl⟩ := List.mem_map.mp hk
    exact sh e (pm.mem_iff.mp he)
theorem SortK.arcs {H : Hp} {l : Addr} {xs : List V} {es : List EnS.Arc} (hl : H l = some (.lst xs)) (en : EntL aimg H xs es) (le : xs.length ≤ 400) (b : ∀ e ∈ es, e.2.2.1.length ≤ 400) (sh : ∀ e ∈ es, SeqAt.shaped (kdata (apk e)) = true) : ∃ key fs, SortK H l (es.map apk) xs key fs := by
  have dat := fun t e => adec_at (H := H) t e
  have of : ∀ v ∈ xs, ∃ e t, e ∈ es ∧ v = .ref t ∧ H t = some (.tup (aimg e)) := fun v hv => by
    obtain ⟨i, hi⟩ := List.getElem?_of_mem hv
    obtain ⟨e, t, he, ev, ht⟩ := en.get hi
    exact ⟨e, t, List.mem_of_getElem? he, ev, ht⟩
  obtain ⟨e1, en2⟩ := en.perm dat (List.mergeSort_perm xs (PySem.W.dataLe false fun v => okeyA (adec H v).1 (adec H v).2.1 (adec H v).2.2.1 (adec H v).2.2.2))
  have pm := (List.mergeSort_perm xs (PySem.W.dataLe false fun v => okeyA (adec H v).1 (adec H v).2.1 (adec H v).2.2.1 (adec H v).2.2.2)).map (adec H)
  rw [← e1] at pm
  refine ⟨fun v => okeyA (adec H v).1 (adec H v).2.1 (adec H v).2.2.1 (adec H v).2.2.2, ((xs.mergeSort (PySem.W.dataLe false fun v => okeyA (adec H v).1 (adec H v).2.1 (adec H v).2.2.1 (adec H v).2.2.2)).map (adec H)).map apk, hl, fun v hv => ?_, fun d hd d' hd' => ?_, .inl fun d hd => ?_, fun v hv => depth_okeyA _ _ _ _, en2.keys apk fun _ => rfl, ?_, mem_map_inj fun e => pm.mem_iff, le, fun k hk => ?_⟩
  · obtain ⟨e, t, he, rfl, ht⟩ := of v hv
    exact .inr ⟨t, e.1, e.2.1, e.2.2.1, e.2.2.2, rfl, ht, Nat.le_trans (b e he) (by decide), by rw [dat t e ht]⟩
  · obtain ⟨v, _, rfl⟩ := List.mem_map.mp hd
    obtain ⟨v', _, rfl⟩ := List.mem_map.mp hd'
    exact alike_okeyA _ _ _ _ _ _ _ _
  · obtain ⟨v, _, rfl⟩ := List.mem_map.mp hd
    exact ⟨_, _, rfl⟩
  · rw [List.pairwise_map, List.pairwise_map]
    refine (EnS.sort_pair (fun v => okeyA (adec H v).1 (adec H v).2.1 (adec H v).2.2.1 (adec H v).2.2.2) xs).imp fun {a b} h => ?_
    rw [lt_okeyA] at h
    by_cases e : adec H a = adec H b
    · exact .inl (by rw [e])
    · exact .inr (.inr ⟨_, _, rfl, rfl, EnS.le_akey h e⟩)
  · obtain ⟨e, he, rfl⟩ := List.mem_map.mp hk
    exact sh e (pm.mem_iff.mp he)
/-- each once, so far -/
structure OnceK (H : Hp) (D : Addr) (fs : List (List L2.Key)) (i : Nat) : Prop where
  out : ∃ ys gs, H D = some (.lst ys) ∧ EntL kimg H ys gs ∧ gs.Pairwise KLt ∧ (∀ e, e ∈ gs ↔ e ∈ fs.take i) ∧ gs.length ≤ i
theorem once_step {fs gs : List (List L2.Key)} {i : Nat} {f : List L2.Key} (pw : fs.Pairwise fun a b => a = b ∨ KLt a b) (hf : fs[i]? = some f) (gp : gs.Pairwise KLt) (gm : ∀ e, e ∈ gs ↔ e ∈ fs.take i) (ne : i = 0 ∨ ∃ f0, fs[i - 1]? = some f0 ∧ f0 ≠ f) : (gs ++ [f]).Pairwise KLt ∧ ∀ e, e ∈ gs ++ [f] ↔ e ∈ fs.take (i + 1) := by
  obtain ⟨li, ef⟩ := List.getElem?_eq_some_iff.mp hf
  refine ⟨List.pairwise_append.mpr ⟨gp, List.pairwise_singleton .., fun a ha b hb => ?_⟩, fun e => ?_⟩
  · rw [List.mem_singleton.mp hb]
    obtain ⟨j, hj⟩ := List.getElem?_of_mem ((gm a).mp ha)
    obtain ⟨lj, ej⟩ := List.getElem?_eq_some_iff.mp hj
    rw [List.length_take] at lj
    rw [List.getElem_take] at ej
    have r := List.pairwise_iff_getElem.mp pw j i (by omega) li (by omega)
    rw [ej, ef] at r
    rcases r with r | r
    · rcases ne with e0 | ⟨f0, h0, n0⟩
      · omega
      · obtain ⟨l0, e0⟩ := List.getElem?_eq_some_iff.mp h0
        have r0 := List.pairwise_iff_getElem.mp pw (i - 1) i l0 li (by omega)
        rw [e0, ef] at r0
        have k0 := r0.resolve_left n0
        by_cases q : j = i - 1
        · subst q
          rw [ej] at e0
          exact (n0 (by rw [← e0, r])).elim
        · have r1 := List.pairwise_iff_getElem.mp pw j (i - 1) (by omega) l0 (by omega)
          rw [ej, e0] at r1
          rcases r1 with r1 | r1
          · exact (n0 (by rw [← r1, r])).elim
          · rw [r] at r1
            exact (klt_asym _ _ r1 k0).elim
    · exact r
  · rw [List.take_add_one, hf, List.mem_append, List.mem_append, gm]
    rfl
theorem once_skip {fs gs : List (List L2.Key)} {i : Nat} {f : List L2.Key} (hf : fs[i]? = some f) (gm : ∀ e, e ∈ gs ↔ e ∈ fs.take i) (h0 : 0 < i) (eq : fs[i - 1]? = some f) : ∀ e, e ∈ gs ↔ e ∈ fs.take (i + 1) := fun e => by
  rw [List.take_add_one, hf, List.mem_append, gm]
  constructor
  · exact .inl
  · rintro (h | h)
    · exact h
    · rw [List.mem_singleton.mp h]
      exact List.mem_of_getElem? (i := i - 1) (by rw [List.getElem?_take, if_pos (by omega)]; exact eq)
theorem EntL.unkeys {α : Type} {img : α → List V} {pk : α → List L2.Key} (hp : ∀ e, (pk e).map kV = img e) {H : Hp} : ∀ {xs : List V} {es : List α}, EntL kimg H xs (es.map pk) → EntL img H xs es
  | [], [], _ => .nil
  | x :: xs, e :: es, h => by
    cases h with
    | cons q r =>
      obtain ⟨t, e', q⟩ := q
      exact .cons ⟨t, e', by rw [← hp]; exact q⟩ (EntL.unkeys hp r)
  | [], _ :: _, h => by cases h
  | _ :: _, [], h => by cases h
theorem srt_keysP {ds es : List (Int × Str)} (s : Srt EnS.PLt ds es) : (ds.map ppk).Pairwise KLt ∧ ∀ e, e ∈ ds.map ppk ↔ e ∈ es.map ppk := ⟨List.pairwise_map.mpr (s.pw.imp fun {a b} h => .inl ⟨a, b, rfl, rfl, h⟩), mem_map_inj s.mem⟩
theorem srt_keysA {ds es : List EnS.Arc} (s : Srt EnS.ALt ds es) : (ds.map apk).Pairwise KLt ∧ ∀ e, e ∈ ds.map apk ↔ e ∈ es.map apk := ⟨List.pairwise_map.mpr (s.pw.imp fun {a b} h => .inr ⟨a, b, rfl, rfl, h⟩), mem_map_inj s.mem⟩
theorem strOk_over {z x : Str} (al : IsAlpha z) (o : Over z x) : PyData.strOk x = true := by
  unfold PyData.strOk
  rw [Array.all_eq_true']
  intro c hc
  have := al.low c (o c (Array.mem_toList_iff.mpr hc))
  exact decide_eq_true (by omega)
theorem shaped_p {z : Str} {e : Int × Str} (al : IsAlpha z) (o : Over z e.2) : SeqAt.shaped (kdata (ppk e)) = true := by
  simp [SeqAt.shaped, kdata, ppk, kd, PyData.canLay0, PyData.canLayAll0, PyData.depth, PyData.depthAll, strOk_over al o]
theorem shaped_a {r z : Str} {e : EnS.Arc} (ar : IsAlpha r) (al : IsAlpha z) (o' : Over r e.2.1) (o : Over z e.2.2.1) : SeqAt.shaped (kdata (apk e)) = true := by
  simp [SeqAt.shaped, kdata, apk, kd, PyData.canLay0, PyData.canLayAll0, PyData.depth, PyData.depthAll, strOk_over al o, strOk_over ar o']
/-- how an error is told -/
def RefT (cL cN cE cT : Addr) (cls : Value) (fs : List (Str × V)) (zs : List V) : Prop :=
  (cls = .ref cL ∧ ∃ v, fs = ([("value", v)] : List (Str × V)) ∧ zs = [.str (Str.ofString "BadLetters"), v]) ∨
  (cls = .ref cN ∧ ∃ v, fs = ([("value", v)] : List (Str × V)) ∧ zs = [.str (Str.ofString "BadNumber"), v]) ∨
  (cls = .ref cE ∧ ∃ v u, fs = ([("index", u), ("place", v)] : List (Str × V)) ∧ zs = [.str (Str.ofString "BadEntry"), v, u]) ∨
  (cls = .ref cT ∧ ∃ v u, fs = ([("limit", u), ("what", v)] : List (Str × V)) ∧ zs = [.str (Str.ofString "TooLarge"), v, u])
def Flt.zs (pl : Str) : Flt → List V
  | .shape => [.str (Str.ofString "BadEntry"), .str pl, .non]
  | .large => [.str (Str.ofString "TooLarge"), .str pl, .int 400]
  | .at k => [.str (Str.ofString "BadEntry"), .str pl, .int (k : Nat)]
def MF.zs (rv zv nv : V) : MF → List V
  | .read => [.str (Str.ofString "BadLetters"), rv]
  | .write => [.str (Str.ofString "BadLetters"), zv]
  | .size => [.str (Str.ofString "BadNumber"), nv]
  | .begins f => f.zs (Str.ofString "begins")
  | .arcs f => f.zs (Str.ofString "arcs")
  | .ends f => f.zs (Str.ofString "ends")
def MF.pos : MF → Nat
  | .read => 0
  | .write => 1
  | .size => 2
  | .begins _ => 3
  | .arcs _ => 4
  | .ends _ => 5
theorem Flt.refT {cL cN cE cT : Addr} {pl : Str} : ∀ f : Flt, RefT cL cN cE cT (.ref (f.cls cE cT)) (f.fs pl) (f.zs pl)
  | .shape => .inr (.inr (.inl ⟨rfl, _, _, rfl, rfl⟩))
  | .large => .inr (.inr (.inr ⟨rfl, _, _, rfl, rfl⟩))
  | .at _ => .inr (.inr (.inl ⟨rfl, _, _, rfl, rfl⟩))
theorem MF.refT {cL cN cE cT : Addr} {rv zv nv : V} : ∀ f : MF, RefT cL cN cE cT (.ref (f.cls cL cN cE cT)) (f.fs rv zv nv) (f.zs rv zv nv)
  | .read => .inl ⟨rfl, _, rfl, rfl⟩
  | .write => .inl ⟨rfl, _, rfl, rfl⟩
  | .size => .inr (.inl ⟨rfl, _, rfl, rfl⟩)
  | .begins f => f.refT
  | .arcs f => f.refT
  | .ends f => f.refT
theorem Flt.zs_deep {K : PySem.W.Frag} {Ok : Hp → V → Prop} {a : Addr} {H : Hp} {v : V} {n : Nat} {pl : Str} (lp : pl.length ≤ 1000) : ∀ {f : Flt}, FltAt K Ok H v f → ∀ x ∈ f.zs pl, Deep a n H x
  | .shape, _ => List.forall_mem_cons.mpr ⟨deep_str (by decide +kernel), List.forall_mem_cons.mpr ⟨deep_str (by omega), List.forall_mem_cons.mpr ⟨deep_non, fun x m => absurd m List.not_mem_nil⟩⟩⟩
  | .large, _ => List.forall_mem_cons.mpr ⟨deep_str (by decide +kernel), List.forall_mem_cons.mpr ⟨deep_str (by omega), List.forall_mem_cons.mpr ⟨deep_int (Nat.lt_of_lt_of_le (show (400 : Int).natAbs < 2 ^ 10 by decide) (Nat.pow_le_pow_right (by omega) (by omega))), fun x m => absurd m List.not_mem_nil⟩⟩⟩
  | .at k, ⟨p, xs, x, _, _, l, hx, _⟩ => List.forall_mem_cons.mpr ⟨deep_str (by decide +kernel), List.forall_mem_cons.mpr ⟨deep_str (by omega), List.forall_mem_cons.mpr ⟨deep_int (Nat.lt_of_lt_of_le (show ((k : Nat) : Int).natAbs < 2 ^ 10 by
      have := (List.getElem?_eq_some_iff.mp hx).1
      show ((k : Nat) : Int).natAbs < 1024
      omega) (Nat.pow_le_pow_right (by omega) (by omega))), fun x m => absurd m List.not_mem_nil⟩⟩⟩
theorem MF.zs_deep {K : PySem.W.Frag} {a : Addr} {H : Hp} {rv zv nv bv av ev : V} {n : Nat} (d1 : Deep a n H rv) (d2 : Deep a n H zv) (d3 : Deep a n H nv) : ∀ {f : MF}, MFAt K H rv zv nv bv av ev f → ∀ x ∈ f.zs rv zv nv, Deep a n H x
  | .read, _ => List.forall_mem_cons.mpr ⟨deep_str (by decide +kernel), List.forall_mem_cons.mpr ⟨d1, fun x m => absurd m List.not_mem_nil⟩⟩
  | .write, _ => List.forall_mem_cons.mpr ⟨deep_str (by decide +kernel), List.forall_mem_cons.mpr ⟨d2, fun x m => absurd m List.not_mem_nil⟩⟩
  | .size, _ => List.forall_mem_cons.mpr ⟨deep_str (by decide +kernel), List.forall_mem_cons.mpr ⟨d3, fun x m => absurd m List.not_mem_nil⟩⟩
  | .begins f, ⟨_, _, _, _, h⟩ => Flt.zs_deep (by decide +kernel) h
  | .arcs f, ⟨_, _, _, _, _, _, _, _, _, h⟩ => Flt.zs_deep (by decide +kernel) h
  | .ends f, ⟨_, _, _, _, _, _, _, _, _, _, _, _, _, _, h⟩ => Flt.zs_deep (by decide +kernel) h
theorem MF.zs_len {rv zv nv : V} : ∀ f : MF, (f.zs rv zv nv).length ≤ 3
  | .read => by show 2 ≤ 3; decide
  | .write => by show 2 ≤ 3; decide
  | .size => by show 2 ≤ 3; decide
  | .begins f => by cases f <;> (show 3 ≤ 3; decide)
  | .arcs f => by cases f <;> (show 3 ≤ 3; decide)
  | .ends f => by cases f <;> (show 3 ≤ 3; decide)
/-- what stands behind the wrong one does not matter -/
theorem MFAt.later {K : PySem.W.Frag} {H : Hp} {rv zv nv bv av ev : V} {f : MF} (h : MFAt K H rv zv nv bv av ev f) {j : Nat} (hp : f.pos < j) (h6 : j < 6) :
    ∃ zv' nv' bv' av' ev', [rv, zv, nv, bv, av, ev].set j .non = [rv, zv', nv', bv', av', ev'] ∧ MFAt K H rv zv' nv' bv' av' ev' f ∧ f.zs rv zv' nv' = f.zs rv zv nv ∧ (zv' = zv ∨ zv' = .non) ∧ (nv' = nv ∨ nv' = .non) ∧ (bv' = bv ∨ bv' = .non) ∧ (av' = av ∨ av' = .non) ∧ (ev' = ev ∨ ev' = .non) := by
  obtain rfl | rfl | rfl | rfl | rfl : j = 1 ∨ j = 2 ∨ j = 3 ∨ j = 4 ∨ j = 5 := by omega
  · cases f with
    | read => exact ⟨.non, nv, bv, av, ev, rfl, h, rfl, .inr rfl, .inl rfl, .inl rfl, .inl rfl, .inl rfl⟩
    | _ => exact absurd hp (by show ¬ _ < 1; simp [MF.pos])
  · cases f with
    | read => exact ⟨zv, .non, bv, av, ev, rfl, h, rfl, .inl rfl, .inr rfl, .inl rfl, .inl rfl, .inl rfl⟩
    | write => exact ⟨zv, .non, bv, av, ev, rfl, h, rfl, .inl rfl, .inr rfl, .inl rfl, .inl rfl, .inl rfl⟩
    | _ => exact absurd hp (by show ¬ _ < 2; simp [MF.pos])
  · cases f with
    | read => exact ⟨zv, nv, .non, av, ev, rfl, h, rfl, .inl rfl, .inl rfl, .inr rfl, .inl rfl, .inl rfl⟩
    | write => exact ⟨zv, nv, .non, av, ev, rfl, h, rfl, .inl rfl, .inl rfl, .inr rfl, .inl rfl, .inl rfl⟩
    | size => exact ⟨zv, nv, .non, av, ev, rfl, h, rfl, .inl rfl, .inl rfl, .inr rfl, .inl rfl, .inl rfl⟩
    | _ => exact absurd hp (by show ¬ _ < 3; simp [MF.pos])
  · cases f with
    | read => exact ⟨zv, nv, bv, .non, ev, rfl, h, rfl, .inl rfl, .inl rfl, .inl rfl, .inr rfl, .inl rfl⟩
    | write => exact ⟨zv, nv, bv, .non, ev, rfl, h, rfl, .inl rfl, .inl rfl, .inl rfl, .inr rfl, .inl rfl⟩
    | size => exact ⟨zv, nv, bv, .non, ev, rfl, h, rfl, .inl rfl, .inl rfl, .inl rfl, .inr rfl, .inl rfl⟩
    | begins f => exact ⟨zv, nv, bv, .non, ev, rfl, h, rfl, .inl rfl, .inl rfl, .inl rfl, .inr rfl, .inl rfl⟩
    | _ => exact absurd hp (by show ¬ _ < 4; simp [MF.pos])
  · cases f with
    | read => exact ⟨zv, nv, bv, av, .non, rfl, h, rfl, .inl rfl, .inl rfl, .inl rfl, .inl rfl, .inr rfl⟩
    | write => exact ⟨zv, nv, bv, av, .non, rfl, h, rfl, .inl rfl, .inl rfl, .inl rfl, .inl rfl, .inr rfl⟩
    | size => exact ⟨zv, nv, bv, av, .non, rfl, h, rfl, .inl rfl, .inl rfl, .inl rfl, .inl rfl, .inr rfl⟩
    | begins f => exact ⟨zv, nv, bv, av, .non, rfl, h, rfl, .inl rfl, .inl rfl, .inl rfl, .inl rfl, .inr rfl⟩
    | arcs f => exact ⟨zv, nv, bv, av, .non, rfl, h, rfl, .inl rfl, .inl rfl, .inl rfl, .inl rfl, .inr rfl⟩
    | _ => exact absurd hp (by show ¬ _ < 5; simp [MF.pos])
/-- spoilt parts and what is due of them -/
def SpD (K : PySem.W.Frag) (a : Addr) (H : Hp) (s d : Addr) : Prop := ∃ (rv zv nv bv av ev : V) (f : MF), H s = some (.lst [rv, zv, nv, bv, av, ev]) ∧ MFAt K H rv zv nv bv av ev f ∧ H d = some (.tup (f.zs rv zv nv)) ∧ Deep a 9 H (.ref s) ∧ ∀ x ∈ f.zs rv zv nv, Deep a 8 H x
theorem Kt.same [Tabl] {H H' : Hp} (s : Same H H') : Kt H H' := ⟨fun _ _ h => s _ _ h, fun _ _ h => s _ _ h⟩
/-- an entry's place in a heap that keeps lists and tuples -/
theorem sIx_nat {n d k : Nat} (h : k ≤ n) : HT.sIx n d (some (k : Int)) = k := by
  unfold HT.sIx
  have h1 : ¬ ((k : Int) < 0) := by omega
  have h2 : min k n = k := Nat.min_eq_left h
  simp [h1, h2]
theorem cut_take {xs : List V} {k : Nat} (h : k ≤ xs.length) : cutV xs none (some (k : Int)) = xs.take k := by
  unfold cutV
  rw [sIx_nat h]
  rfl
theorem cut_drop {xs : List V} {k : Nat} (h : k ≤ xs.length) : cutV xs (some (k : Int)) none = xs.drop k := by
  unfold cutV
  rw [sIx_nat h]
  show (xs.drop k).take (xs.length - k) = xs.drop k
  rw [List.take_of_length_le (by rw [List.length_drop]; exact Nat.le_refl _)]
/-! a list elsewhere is changed -/
theorem deep_ne {s t : Addr} {n : Nat} {H : Hp} (d : Deep s n H (.ref t)) : t ≠ s := by
  cases n with
  | zero =>
    rcases d with ⟨pl, _⟩ | ⟨p, xs, e, ne, _⟩
    · cases pl
    · cases e; exact ne
  | succ n =>
    rcases d with ⟨pl, _⟩ | ⟨p, xs, e, ne, _⟩
    · cases pl
    · cases e; exact ne
theorem deep_in {s t : Addr} {n : Nat} {H : Hp} {xs : List V} (d : Deep s (n + 1) H (.ref t)) (h : H t = some (.lst xs) ∨ H t = some (.tup xs)) {x : V} (m : x ∈ xs) : Deep s n H x := (deep_ref d h).2 n rfl x m
section
variable [Tabl] {s : Addr} {H H' : Hp} {K : PySem.W.Frag} {v : V} {n : Nat}
theorem shal_put (k : But s H H') (d : Deep s n H v) : Shal H' v := (d.put k d).shal
theorem put_back (k : But s H H') {t : Addr} {xs : List V} (d : Deep s n H (.ref t)) (h : H' t = some (.tup xs)) : H t = some (.tup xs) := by
  obtain ⟨ys, o⟩ := shal_row d.shal
  rcases o with o | o
  · rw [k _ _ (deep_ne d) o] at h
    cases h
  · rw [k _ _ (deep_ne d) o] at h
    cases h
    exact o
theorem inner_put (k : But s H H') (d : Deep s (n + 1) H v) : Inner H' v := fun t xs e ht y hy => by
  subst e
  exact shal_put k (deep_in d (.inr (put_back k d ht)) hy)
theorem rowAt_put (k : But s H H') {p : Addr} {xs : List V} (ne : p ≠ s) (h : Own.RowAt K H p xs) : Own.RowAt K H' p xs := h.imp (k _ _ ne) fun h => h.imp (k _ _ ne) id
theorem FltAt.put {Ok : Hp → V → Prop} (ok : ∀ x m, Deep s m H x → (Ok H' x ↔ Ok H x)) (k : But s H H') (d : Deep s (n + 2) H v) : ∀ {f : Flt}, FltAt K Ok H v f → FltAt K Ok H' v f
  | .shape, h => h
  | .large, ⟨p, xs, e, h, l⟩ => ⟨p, xs, e, rowAt_put k (by subst e; exact deep_ne d) h, l⟩
  | .at j, ⟨p, xs, x, e, h, l, hx, bad, bef⟩ => by
    subst e
    have dx : ∀ y ∈ xs, Deep s (n + 1) H y := fun y m => by
      rcases h with h | h | ⟨rfl, _⟩
      · exact deep_in d (.inl h) m
      · exact deep_in d (.inr h) m
      · cases m
    refine ⟨p, xs, x, rfl, rowAt_put k (deep_ne d) h, l, hx, fun o => bad ((ok x _ (dx x (List.mem_of_getElem? hx))).mp o), fun i y hi hy => ?_⟩
    obtain ⟨b1, b2, b3⟩ := bef i y hi hy
    have dy := dx y (List.mem_of_getElem? hy)
    exact ⟨fun z => (ok y _ dy).mpr (b1 z), shal_put k dy, inner_put k dy⟩
theorem pairV_put {z : Str} {n' : Int} (k : But s H H') (m : Nat) (d : Deep s m H v) : PairV H' z n' v ↔ PairV H z n' v := by
  constructor
  · rintro ⟨t, i, x, rfl, ht, r⟩
    exact ⟨t, i, x, rfl, put_back k d ht, r⟩
  · rintro ⟨t, i, x, rfl, ht, r⟩
    exact ⟨t, i, x, rfl, k _ _ (deep_ne d) ht, r⟩
theorem arcV_put {r z : Str} {n' : Int} (k : But s H H') (m : Nat) (d : Deep s m H v) : ArcV H' r z n' v ↔ ArcV H r z n' v := by
  constructor
  · rintro ⟨t, i, l, x, j, rfl, ht, q⟩
    exact ⟨t, i, l, x, j, rfl, put_back k d ht, q⟩
  · rintro ⟨t, i, l, x, j, rfl, ht, q⟩
    exact ⟨t, i, l, x, j, rfl, k _ _ (deep_ne d) ht, q⟩
theorem RowE.put {α : Type} {img : α → List V} (k : But s H H') {l : Addr} {es : List α} (d : Deep s (n + 1) H (.ref l)) (h : RowE K img H l es) : RowE K img H' l es := by
  obtain ⟨xs, h1, h2, h3⟩ := h
  refine ⟨xs, rowAt_put k (deep_ne d) h1, h2, EntL.of h3.len fun i x e hx he => ?_⟩
  obtain ⟨e', t, he', rfl, ht⟩ := h3.get hx
  rw [he] at he'
  cases he'
  have dx : Deep s n H (.ref t) := by
    rcases h1 with h | h | ⟨rfl, _⟩
    · exact deep_in d (.inl h) (List.mem_of_getElem? hx)
    · exact deep_in d (.inr h) (List.mem_of_getElem? hx)
    · cases hx
  exact ⟨t, rfl, k _ _ (deep_ne dx) ht⟩
theorem MFAt.put {rv zv nv bv av ev : V} (k : But s H H') (d1 : Deep s (n + 2) H rv) (d2 : Deep s (n + 2) H zv) (d3 : Deep s (n + 2) H nv) (d4 : Deep s (n + 2) H bv) (d5 : Deep s (n + 2) H av) (d6 : Deep s (n + 2) H ev) : ∀ {f : MF}, MFAt K H rv zv nv bv av ev f → MFAt K H' rv zv nv bv av ev f
  | .read, ⟨_, b⟩ => ⟨shal_put k d1, b⟩
  | .write, ⟨a, _, b⟩ => ⟨a, shal_put k d2, b⟩
  | .size, ⟨a, c, _, b⟩ => ⟨a, c, shal_put k d3, b⟩
  | .begins f, ⟨r, z, n, b, h⟩ => ⟨r, z, n, b, h.put (fun _ m d => pairV_put k m d) k d4⟩
  | .arcs f, ⟨r, z, n, b, be, h1, h2, h3, h4, h⟩ => ⟨r, z, n, b, be, h1, h2, by subst h2; exact h3.put k d4, h4, h.put (fun _ m d => arcV_put k m d) k d5⟩
  | .ends f, ⟨r, z, n, b, be, a, ae, h1, h2, h3, h4, h5, h6, h7, h⟩ => ⟨r, z, n, b, be, a, ae, h1, h2, by subst h2; exact h3.put k d4, h4, h5, by subst h5; exact h6.put k d5, h7, h.put (fun _ m d => pairV_put k m d) k d6⟩
end
theorem cut_take_all {xs : List V} {k : Nat} : cutV xs none (some (k : Int)) = xs.take k := by
  by_cases h : k ≤ xs.length
  · exact cut_take h
  · unfold cutV
    rw [HT.sIx_nat]
    show (xs.drop 0).take (min k xs.length - 0) = xs.take k
    rw [List.drop_zero, Nat.sub_zero, Nat.min_eq_right (by omega), List.take_of_length_le (Nat.le_refl _), List.take_of_length_le (by omega)]
theorem spot_at {xs tl : List V} {v : V} {P : Nat} (hP : P ≤ xs.length) (h400 : P < 400) : ((xs.take P ++ [v] ++ xs.drop P ++ tl).take 400)[P]? = some v ∧ ∀ j y, j < P → ((xs.take P ++ [v] ++ xs.drop P ++ tl).take 400)[j]? = some y → xs[j]? = some y := by
  have lt : (xs.take P).length = P := by rw [List.length_take]; omega
  constructor
  · rw [List.getElem?_take, if_pos h400, List.append_assoc, List.append_assoc, List.getElem?_append_right (by omega), lt, Nat.sub_self]
    rfl
  · intro j y hj h
    rw [List.getElem?_take, if_pos (by omega), List.append_assoc, List.append_assoc, List.getElem?_append_left (by omega), List.getElem?_take, if_pos hj] at h
    exact h
theorem spot_mem {xs tl : List V} {v : V} {P : Nat} : ∀ y ∈ (xs.take P ++ [v] ++ xs.drop P ++ tl).take 400, y = v ∨ y ∈ xs ∨ y ∈ tl := fun y m => by
  have m := List.mem_of_mem_take m
  rcases List.mem_append.mp m with m | m
  · rcases List.mem_append.mp m with m | m
    · rcases List.mem_append.mp m with m | m
      · exact .inr (.inl (List.mem_of_mem_take m))
      · exact .inl (List.mem_singleton.mp m)
    · exact .inr (.inl (List.mem_of_mem_drop m))
  · exact .inr (.inr m)
/-- apart from both -/
def D2 (a s : Addr) (n : Nat) (H : Hp) (v : V) : Prop := Deep a n H v ∧ Deep s n H v
theorem D2.le {a s : Addr} {n m : Nat} {H : Hp} {v : V} (h : D2 a s n H v) (l : n ≤ m) : D2 a s m H v := ⟨h.1.le l, h.2.le l⟩
theorem D2.row {a s w : Addr} {n : Nat} {H : Hp} {ys : List V} (h : H w = some (.lst ys) ∨ H w = some (.tup ys)) (na : w ≠ a) (ns : w ≠ s) (l : ys.length ≤ 1000000) (r : ∀ y ∈ ys, D2 a s n H y) : D2 a s (n + 1) H (.ref w) :=
  ⟨.inr ⟨w, ys, rfl, na, h, l, fun y m => (r y m).1⟩, .inr ⟨w, ys, rfl, ns, h, l, fun y m => (r y m).2⟩⟩
theorem D2.but [Tabl] {a s : Addr} {n : Nat} {H H' : Hp} {v : V} (h : D2 a s n H v) (k : But a H H') : D2 a s n H' v := ⟨h.1.but k, h.2.put k h.1⟩
theorem D2.same [Tabl] {a s : Addr} {n : Nat} {H H' : Hp} {v : V} (h : D2 a s n H v) (k : Same H H') : D2 a s n H' v := ⟨h.1.same k, h.2.same k⟩
theorem D2.put [Tabl] {a s : Addr} {n : Nat} {H H' : Hp} {v : V} (h : D2 a s n H v) (k : But s H H') : D2 a s n H' v := ⟨h.1.put k h.2, h.2.but k⟩
theorem D2.str {a s : Addr} {n : Nat} {H : Hp} {x : Str} (l : x.length ≤ 1000000) : D2 a s n H (.str x) := ⟨deep_str l, deep_str l⟩
theorem D2.non {a s : Addr} {n : Nat} {H : Hp} : D2 a s n H .non := ⟨deep_non, deep_non⟩
theorem D2.int {a s : Addr} {n : Nat} {H : Hp} {i : Int} (l : i.natAbs < 2 ^ 13000) : D2 a s n H (.int i) := ⟨deep_int l, deep_int l⟩
/-- spoilt parts, while the store stands at a and the parts at s -/
structure Mid [Tabl] (K : PySem.W.Frag) (a ca s : Addr) (H H' : Hp) (d : Addr) (rv zv nv bv av ev : V) (f : MF) : Prop where
  b : But a H H'
  st : Sto H' a ca
  row : H' s = some (.lst [rv, zv, nv, bv, av, ev])
  mf : MFAt K H' rv zv nv bv av ev f
  due : H' d = some (.tup (f.zs rv zv nv))
  d1 : D2 a s 6 H' rv
  d2 : D2 a s 6 H' zv
  d3 : D2 a s 6 H' nv
  d4 : D2 a s 6 H' bv
  d5 : D2 a s 6 H' av
  d6 : D2 a s 6 H' ev
theorem Mid.mk' [Tabl] {K : PySem.W.Frag} {a ca s : Addr} {H H5 : Hp} {rv zv nv bv av ev : V} {f : MF} {us : List V} (nsH : H s = none) (xs : s ≠ a ∧ s ≠ ca) (b : But a H H5) (S : Sto H5 a ca) (hs : H5 s = some (.lst us)) (mf : MFAt K H5 rv zv nv bv av ev f)
    (d1 : D2 a s 6 H5 rv) (d2 : D2 a s 6 H5 zv) (d3 : D2 a s 6 H5 nv) (d4 : D2 a s 6 H5 bv) (d5 : D2 a s 6 H5 av) (d6 : D2 a s 6 H5 ev) {d : Addr} (nd : (upd H5 s (.lst [rv, zv, nv, bv, av, ev])) d = none) :
    Mid K a ca s H (upd (upd H5 s (.lst [rv, zv, nv, bv, av, ev])) d (.tup (f.zs rv zv nv))) d rv zv nv bv av ev f := by
  have k := But.put (o := .lst [rv, zv, nv, bv, av, ev]) hs
  have sm := same_new (o := .tup (f.zs rv zv nv)) nd
  refine ⟨(But.grown (.refl H) nsH b hs).trans (But.same sm), (S.put xs).same sm, sm _ _ upd_same, (mf.put (n := 4) k d1.2 d2.2 d3.2 d4.2 d5.2 d6.2).kt (Kt.same sm), upd_same, (d1.put k).same sm, (d2.put k).same sm, (d3.put k).same sm, (d4.put k).same sm, (d5.put k).same sm, (d6.put k).same sm⟩
theorem Mid.but [Tabl] {K : PySem.W.Frag} {a ca s d : Addr} {H H5 H6 : Hp} {rv zv nv bv av ev : V} {f : MF} (M : Mid K a ca s H H5 d rv zv nv bv av ev f) (k : But a H5 H6) (S : Sto H6 a ca) (sa : s ≠ a) : Mid K a ca s H H6 d rv zv nv bv av ev f := by
  have da : d ≠ a := fun e => M.st.ntup _ (by rw [← e]; exact M.due)
  exact ⟨M.b.trans k, S, k _ _ sa M.row, M.mf.put (n := 4) k M.d1.1 M.d2.1 M.d3.1 M.d4.1 M.d5.1 M.d6.1, k _ _ da M.due, M.d1.but k, M.d2.but k, M.d3.but k, M.d4.but k, M.d5.but k, M.d6.but k⟩
/-! ### xs.insert(k, y) -/
def rInsert : V → List V → Hp → VK → Prop := fun x vs H Q => ∃ l xs y, ∃ k : Nat, x = .ref l ∧ vs = [.int (k : Int), y] ∧ H l = some (.lst xs) ∧ k ≤ xs.length ∧ xs.length < sizeLine ∧ k < 2 ^ 62 ∧ Q .non (upd H l (.lst (xs.take k ++ [y] ++ xs.drop k)))
theorem mt_insert {X : Cx} : MtM X "list.insert" rInsert := by
  intro pins s σ H x vs v us Q I rx rv h
  obtain ⟨l, xs, y, k, rfl, rfl, hH, hk, hz, hk2, q⟩ := h
  obtain ⟨i, hi⟩ : ∃ i : Int, i = (k : Int) := ⟨_, rfl⟩
  rw [← hi] at rv
  cases rx
  obtain ⟨u1, u2, rfl, r1, r2⟩ := vals2 rv
  obtain ⟨t, rfl⟩ := r1
  obtain ⟨z, its, n, r, hl, e⟩ := I.lstM hH
  have fit : Builtin.List.listFitsIndex i = true := fitsIndex_both (by omega) (by omega)
  have lk : its.length = xs.length := hl.symm
  have hsz : its.toArray.size ≤ sizeLine := by
    rw [List.size_toArray]
    omega
  have hc0 : ¬ (!Builtin.List.listFitsIndex i) = true := by
    rw [fit]
    exact Bool.false_ne_true
  have M := AutoSeq1.list_insert_list_int_val_1 l its.toArray n i t u2 hc0 hsz
  refine call_meets PySem.F.slot_list_insert ⟨_, e, rfl⟩ PySem.F.entry_list_insert (PySem.F.args_list_insert_3 _ _ _) M ⟨e, ?_⟩
  refine ⟨.non, _, I.lset (its' := its.take k ++ [u2] ++ its.drop k) hH e ?_ (((r.take k).append (.cons r2 .nil)).append (r.drop k)) ?_, rfl, q⟩
  · have h0 : ¬ (i < 0) := by omega
    have h1 : min i.toNat its.toArray.size = k := by
      rw [List.size_toArray, hi, Int.toNat_natCast]
      omega
    show ((its.toArray.extract 0 (if i < 0 then (i + (its.toArray.size : Int)).toNat else min i.toNat its.toArray.size)).push u2 ++ its.toArray.extract (if i < 0 then (i + (its.toArray.size : Int)).toNat else min i.toNat its.toArray.size)) = _
    rw [if_neg h0, h1]
    simp
    rw [List.take_of_length_le (by rw [List.length_drop]; exact Nat.le_refl _)]
  · rw [List.length_append, List.length_append, List.length_take, List.length_drop]
    show min k xs.length + 1 + (xs.length - k) ≤ sizeLine
    omega
theorem call_list_ofK {X : Cx} (K : PySem.W.Frag) (h : X.K = K) : CallR X (.type "list") (fun xs H Q => ∃ p ys, xs = [V.ref p] ∧ (SqL K H p ys ∨ SqT K H p ys) ∧ ∀ l : Addr, H l = none → Q (.ref l) (upd H l (.lst ys))) := by
  rw [← h]
  exact call_list_of
/-! ### the keys of entries, all of five items -/
def ekeyP (i : Int) (x : Str) : PyData := .tuple [.int i, .str (Str.ofString ""), .int ((x.length : Nat) : Int), .str x, .int 0]
theorem lt_ekeyP (i : Int) (x : Str) (j : Int) (y : Str) : PySem.W.dataLt (ekeyP i x) (ekeyP j y) = PySem.W.dataLt (EnS.pkey i x) (EnS.pkey j y) := by
  unfold ekeyP EnS.pkey
  rw [PySem.W.dataLt_tuple, PySem.W.dataLt_cons (EnS.alike_ii _ _), PySem.W.dataLt_cons (EnS.alike_ss _ _), PySem.W.dataLt_cons (EnS.alike_ii _ _), PySem.W.dataLt_cons (EnS.alike_ss _ _), PySem.W.dataLt_cons (EnS.alike_ii _ _), PySem.W.dataLt_pair (EnS.alike_ii _ _) (EnS.alike_w _ _), EnS.lt_w, PySem.W.dataLt_int, PySem.W.dataLt_int, PySem.W.dataLt_str, PySem.W.dataLt_str]
  by_cases hi : i = j
  · rw [if_pos ((EnS.eqv_ii _ _).mpr hi), if_pos ((EnS.eqv_ii _ _).mpr hi), if_pos ((EnS.eqv_ss _ _).mpr rfl)]
    by_cases hx : x = y
    · subst hx
      rw [if_pos ((EnS.eqv_ii _ _).mpr rfl), if_pos ((EnS.eqv_ss _ _).mpr rfl), if_pos ((EnS.eqv_w _ _).mpr rfl), if_pos ((EnS.eqv_ii _ _).mpr rfl)]
      rfl
    · rw [if_neg (fun z => hx ((EnS.eqv_w _ _).mp z)), if_neg (fun z => hx ((EnS.eqv_ss _ _).mp z))]
      unfold MinQ.kLt
      by_cases h : x.length = y.length
      · rw [if_pos ((EnS.eqv_ii _ _).mpr (by rw [h])), if_pos h]
      · rw [if_neg (fun z => h (by have := (EnS.eqv_ii _ _).mp z; omega)), if_neg h]
        exact decide_eq_decide.mpr (by omega)
  · rw [if_neg (fun z => hi ((EnS.eqv_ii _ _).mp z)), if_neg (fun z => hi ((EnS.eqv_ii _ _).mp z))]
def relE (H : Hp) (v : V) (d : PyData) : Prop := (∃ (t : Addr) (i : Int) (x : Str), v = .ref t ∧ H t = some (.tup [.int i, .str x]) ∧ x.length ≤ 1000000 ∧ d = ekeyP i x) ∨
  ∃ (t : Addr) (i : Int) (l x : Str) (j : Int), v = .ref t ∧ H t = some (.tup [.int i, .str l, .str x, .int j]) ∧ x.length ≤ 1000000 ∧ d = okeyA i l x j
theorem relE_same [Tabl] (H H' : Hp) (x : V) (d : PyData) (s : Same H H') (h : relE H x d) : relE H' x d := by
  rcases h with ⟨t, i, x, e, ht, le, ed⟩ | ⟨t, i, l, x, j, e, ht, le, ed⟩
  · exact .inl ⟨t, i, x, e, s _ _ ht, le, ed⟩
  · exact .inr ⟨t, i, l, x, j, e, s _ _ ht, le, ed⟩
theorem alike_ekeyP (i : Int) (x : Str) (j : Int) (y : Str) : PySem.W.alike (ekeyP i x) (ekeyP j y) = true := by simp [ekeyP, PySem.W.alike, PySem.W.alikeAll]
theorem depth_ekeyP (i : Int) (x : Str) : (ekeyP i x).depth ≤ 16 := by simp [ekeyP, PyData.depth, PyData.depthAll]
structure SortE {α : Type} (img : α → List V) (lt : α → α → Prop) (H : Hp) (xs : List V) (fs : List α) (key : V → PyData) (ds : List α) : Prop where
  rel : ∀ x ∈ xs, relE H x (key x)
  al : PySem.W.AllAlike (xs.map key)
  so : PySem.W.Sortable (xs.map key)
  dp : ∀ x ∈ xs, (key x).depth ≤ 16
  ent : EntL img H (xs.mergeSort (PySem.W.dataLe false key)) ds
  pw : ds.Pairwise lt
  mem : ∀ e, e ∈ ds ↔ e ∈ fs
  len : ds.length = fs.length
theorem SortE.pairs {H : Hp} {xs : List V} {fs : List (Int × Str)} (en : EntL pimg H xs fs) (nd : fs.Nodup) (b : ∀ e ∈ fs, e.2.length ≤ 400) : ∃ key ds, SortE pimg EnS.PLt H xs fs key ds := by
  have dat := fun t e => pdec_at (H := H) t e
  have of : ∀ v ∈ xs, ∃ e t, e ∈ fs ∧ v = .ref t ∧ H t = some (.tup (pimg e)) := fun v hv => by
    obtain ⟨i, hi⟩ := List.getElem?_of_mem hv
    obtain ⟨e, t, he, ev, ht⟩ := en.get hi
    exact ⟨e, t, List.mem_of_getElem? he, ev, ht⟩
  obtain ⟨e1, en2⟩ := en.perm dat (List.mergeSort_perm xs (PySem.W.dataLe false fun v => ekeyP (pdec H v).1 (pdec H v).2))
  have pm := (List.mergeSort_perm xs (PySem.W.dataLe false fun v => ekeyP (pdec H v).1 (pdec H v).2)).map (pdec H)
  rw [← e1] at pm
  refine ⟨fun v => ekeyP (pdec H v).1 (pdec H v).2, _, fun v hv => ?_, fun d hd d' hd' => ?_, .inl fun d hd => ?_, fun v hv => depth_ekeyP _ _, en2, ?_, fun e => pm.mem_iff, pm.length_eq⟩
  · obtain ⟨e, t, he, rfl, ht⟩ := of v hv
    exact .inl ⟨t, e.1, e.2, rfl, ht, Nat.le_trans (b e he) (by decide), by rw [dat t e ht]⟩
  · obtain ⟨v, _, rfl⟩ := List.mem_map.mp hd
    obtain ⟨v', _, rfl⟩ := List.mem_map.mp hd'
    exact alike_ekeyP _ _ _ _
  · obtain ⟨v, _, rfl⟩ := List.mem_map.mp hd
    exact ⟨_, _, rfl⟩
  · have nd2 := pm.nodup_iff.mpr nd
    rw [List.pairwise_map]
    have pw := EnS.sort_pair (fun v => ekeyP (pdec H v).1 (pdec H v).2) xs
    have ne := List.pairwise_map.mp nd2
    refine (pw.and ne).imp fun {a b} h => ?_
    obtain ⟨h1, h2⟩ := h
    rw [lt_ekeyP] at h1
    exact EnS.le_pkey h1 h2
theorem SortE.arcs {H : Hp} {xs : List V} {fs : List EnS.Arc} (en : EntL aimg H xs fs) (nd : fs.Nodup) (b : ∀ e ∈ fs, e.2.2.1.length ≤ 400) : ∃ key ds, SortE aimg EnS.ALt H xs fs key ds := by
  have dat := fun t e => adec_at (H := H) t e
  have of : ∀ v ∈ xs, ∃ e t, e ∈ fs ∧ v = .ref t ∧ H t = some (.tup (aimg e)) := fun v hv => by
    obtain ⟨i, hi⟩ := List.getElem?_of_mem hv
    obtain ⟨e, t, he, ev, ht⟩ := en.get hi
    exact ⟨e, t, List.mem_of_getElem? he, ev, ht⟩
  obtain ⟨e1, en2⟩ := en.perm dat (List.mergeSort_perm xs (PySem.W.dataLe false fun v => okeyA (adec H v).1 (adec H v).2.1 (adec H v).2.2.1 (adec H v).2.2.2))
  have pm := (List.mergeSort_perm xs (PySem.W.dataLe false fun v => okeyA (adec H v).1 (adec H v).2.1 (adec H v).2.2.1 (adec H v).2.2.2)).map (adec H)
  rw [← e1] at pm
  refine ⟨fun v => okeyA (adec H v).1 (adec H v).2.1 (adec H v).2.2.1 (adec H v).2.2.2, _, fun v hv => ?_, fun d hd d' hd' => ?_, .inl fun d hd => ?_, fun v hv => depth_okeyA _ _ _ _, en2, ?_, fun e => pm.mem_iff, pm.length_eq⟩
  · obtain ⟨e, t, he, rfl, ht⟩ := of v hv
    exact .inr ⟨t, e.1, e.2.1, e.2.2.1, e.2.2.2, rfl, ht, Nat.le_trans (b e he) (by decide), by rw [dat t e ht]⟩
  · obtain ⟨v, _, rfl⟩ := List.mem_map.mp hd
    obtain ⟨v', _, rfl⟩ := List.mem_map.mp hd'
    exact alike_okeyA _ _ _ _ _ _ _ _
  · obtain ⟨v, _, rfl⟩ := List.mem_map.mp hd
    exact ⟨_, _, rfl⟩
  · have nd2 := pm.nodup_iff.mpr nd
    rw [List.pairwise_map]
    have pw := EnS.sort_pair (fun v => okeyA (adec H v).1 (adec H v).2.1 (adec H v).2.2.1 (adec H v).2.2.2) xs
    have ne := List.pairwise_map.mp nd2
    refine (pw.and ne).imp fun {a b} h => ?_
    obtain ⟨h1, h2⟩ := h
    rw [lt_okeyA] at h1
    exact EnS.le_akey h1 h2
/-- a list of keys, as data -/
theorem depth_kd : ∀ k : L2.Key, (kd k).depth = 0
  | .inl i => by simp [kd, PyData.depth]
  | .inr x => by simp [kd, PyData.depth]
theorem depth_kall : ∀ k : List L2.Key, PyData.depthAll (k.map kd) = 0
  | [] => by simp [PyData.depthAll]
  | a :: k => by rw [List.map_cons, PyData.depthAll, depth_kd, depth_kall k]; rfl
theorem depth_kdata (k : List L2.Key) : (kdata k).depth ≤ 2 := by
  unfold kdata
  rw [PyData.depth, depth_kall]
  decide
theorem depth_klist : ∀ gs : List (List L2.Key), PyData.depthAll (gs.map kdata) ≤ 2
  | [] => by simp [PyData.depthAll]
  | a :: gs => by
    rw [List.map_cons, PyData.depthAll]
    exact Nat.max_le.mpr ⟨depth_kdata a, depth_klist gs⟩
theorem canLay_klist : ∀ {gs : List (List L2.Key)}, (∀ g ∈ gs, SeqAt.shaped (kdata g) = true) → PyData.canLayAll0 (gs.map kdata) = true
  | [], _ => by simp [PyData.canLayAll0]
  | a :: gs, h => by
    rw [List.map_cons, PyData.canLayAll0, SeqAt.canLay_of_shaped (h a List.mem_cons_self), canLay_klist fun g m => h g (List.mem_cons_of_mem _ m)]
    rfl
theorem shaped_klist {gs : List (List L2.Key)} (h : ∀ g ∈ gs, SeqAt.shaped (kdata g) = true) : SeqAt.shaped (.list (gs.map kdata)) = true := by
  unfold SeqAt.shaped
  rw [PyData.canLay0, canLay_klist h, PyData.depth]
  have := depth_klist gs
  simp
  omega
theorem dp_klist {K : PySem.W.Frag} {H : Hp} : ∀ {ys : List V} {gs : List (List L2.Key)}, EntL kimg H ys gs → DpAll K H ys (gs.map kdata)
  | _, _, .nil => .nil
  | _, _, .cons ⟨t, e, q⟩ r => .cons (by rw [e]; exact dp_kdata q) (dp_klist r)
theorem any_kdata_yes {gs : List (List L2.Key)} {f : List L2.Key} (m : f ∈ gs) : ((gs.map kdata).any fun z => PyData.eqv z (kdata f)) = true := List.any_eq_true.mpr ⟨kdata f, List.mem_map_of_mem m, (eqv_kdata f f).mpr rfl⟩
theorem any_kdata_no {gs : List (List L2.Key)} {f : List L2.Key} (m : f ∉ gs) : ((gs.map kdata).any fun z => PyData.eqv z (kdata f)) = false := by
  rw [List.any_eq_false]
  intro z hz q
  obtain ⟨g, hg, rfl⟩ := List.mem_map.mp hz
  exact m ((eqv_kdata g f).mp q ▸ hg)
theorem exists_map {α β : Type} {pk : α → β} {es : List α} : ∀ {gs : List β}, (∀ g ∈ gs, g ∈ es.map pk) → ∃ fs : List α, gs = fs.map pk ∧ ∀ e ∈ fs, e ∈ es
  | [], _ => ⟨[], rfl, fun e m => absurd m List.not_mem_nil⟩
  | g :: gs, h => by
    obtain ⟨fs, e1, e2⟩ := exists_map fun g m => h g (List.mem_cons_of_mem _ m)
    obtain ⟨e, he, rfl⟩ := List.mem_map.mp (h g List.mem_cons_self)
    exact ⟨e :: fs, by rw [e1]; rfl, fun e' m => (List.mem_cons.mp m).elim (fun q => by rw [q]; exact he) (e2 e')⟩
theorem units65 {k : Nat} {A : Around} (r : Room k A) : A.units + 65 < cLine := by
  have := r.un
  omega
theorem pe_joinK {X : Cx} (K : PySem.W.Frag) (hK : X.K = K) {o e : Expr} {to te : TE} {apos pos : Pos} (ho : PE X o to) (he : PE X e te) (hs : starEach [e] X.env = [(false, eval e X.env)] := by rfl) (hbase : attributeBase o "join" X.env (eval o X.env) = eval o X.env := by rfl) (hline : (apos.endLine == pos.line) = true := by rfl) :
    PE X (.Call (.Attribute o "join" apos) [e] [] pos) (tM1 (fun x xs H Q => ∃ a p, ∃ ys : List Str, x = .str a ∧ xs = [.ref p] ∧ (SqL K H p (ys.map V.str) ∨ SqT K H p (ys.map V.str)) ∧
      (ys.map (·.length)).sum + ys.length * a.length ≤ 16777216 ∧ Q (.str (Txt.join a ys)) H) to te) := by
  rw [← hK]
  exact pe_join ho he hs hbase hline
def shW (x : Str) : Str := if x = Str.ofString "" then Str.ofString "-" else x
def shI (i : Int) : Str := toString i
theorem shI_len {i : Int} (h0 : 0 ≤ i) (h1 : i ≤ 64) : (shI i).length ≤ 2 := by
  obtain ⟨k, rfl⟩ := Int.eq_ofNat_of_zero_le h0
  have key : ∀ k : Nat, k < 65 → (shI (k : Int)).length ≤ 2 := by decide +kernel
  exact key k (by omega)
theorem shW_len (x : Str) : (shW x).length ≤ x.length + 1 := by
  unfold shW
  split
  · exact Nat.le_trans (show (Str.ofString "-").length ≤ 1 by decide +kernel) (by omega)
  · omega
theorem log_small {i : Int} (h0 : 0 ≤ i) (h1 : i ≤ 64) : i.natAbs.log2 < 1920 := by
  obtain ⟨k, rfl⟩ := Int.eq_ofNat_of_zero_le h0
  have key : ∀ k : Nat, k < 65 → ((k : Int)).natAbs.log2 < 1920 := by decide +kernel
  exact key k (by omega)
theorem sum_1000 : ∀ ys : List Str, (∀ y ∈ ys, y.length ≤ 1000) → (ys.map (·.length)).sum ≤ ys.length * 1000
  | [], _ => Nat.le_refl _
  | y :: ys, h => by
    have := sum_1000 ys fun x m => h x (List.mem_cons_of_mem _ m)
    have := h y (List.mem_cons_self ..)
    simp only [List.map_cons, List.sum_cons, List.length_cons]
    omega
structure TextRows (H : Hp) (xs : List V) (rows : List (List Str)) : Prop where
  len : xs.length = rows.length
  get : ∀ (i : Nat) (ws : List Str), rows[i]? = some ws → ∃ d : Addr, xs[i]? = some (V.ref d) ∧ H d = some (.lst (ws.map V.str))
theorem TextRows.same [Tabl] {H H' : Hp} {xs : List V} {rows : List (List Str)} (h : TextRows H xs rows) (s : Same H H') : TextRows H' xs rows := ⟨h.len, fun i ws e => let ⟨d, e1, e2⟩ := h.get i ws e; ⟨d, e1, s _ _ e2⟩⟩
theorem join_len (a : Str) : ∀ ys : List Str, (Txt.join a ys).length ≤ (ys.map (·.length)).sum + ys.length * a.length
  | [] => Nat.le_trans (show (Txt.join a []).length ≤ 0 from Nat.le_of_eq rfl) (Nat.zero_le _)
  | [x] => by
    show x.length ≤ _
    simp
  | x :: y :: r => by
    have e : Txt.join a (x :: y :: r) = x ++ a ++ Txt.join a (y :: r) := by
      unfold Txt.join
      first
        | rfl
        | (rw [StrLaws.glued_eq_join, StrLaws.glued_eq_join]; rfl)
    have ih := join_len a (y :: r)
    rw [e, length_app, length_app]
    simp only [List.map_cons, List.sum_cons, List.length_cons, Nat.add_mul, Nat.one_mul] at ih ⊢
    omega
theorem sum_many (c : Nat) : ∀ ys : List Str, (∀ y ∈ ys, y.length ≤ c) → (ys.map (·.length)).sum ≤ ys.length * c
  | [], _ => Nat.zero_le _
  | y :: ys, h => by
    have := sum_many c ys fun x m => h x (List.mem_cons_of_mem _ m)
    have := h y (List.mem_cons_self ..)
    simp only [List.map_cons, List.sum_cons, List.length_cons, Nat.add_mul, Nat.one_mul]
    omega
theorem TextRows.push {H : Hp} {xs : List V} {rows : List (List Str)} {W d : Addr} {ws : List Str} (h : TextRows H xs rows) (ne : 0 < rows.length) (hW : H W = some (.lst xs)) (dW : d ≠ W) (hd : H d = some (.lst (ws.map V.str))) :
    TextRows (upd H W (.lst (xs ++ [.ref d]))) (xs ++ [.ref d]) (rows ++ [ws]) := by
  refine ⟨by rw [List.length_append, List.length_append, h.len]; rfl, fun i us e => ?_⟩
  by_cases il : i < rows.length
  · rw [List.getElem?_append_left il] at e
    obtain ⟨c, e1, e2⟩ := h.get i us e
    have cW : c ≠ W := fun z => by
      subst z
      rw [hW] at e2
      have e2 : xs = us.map V.str := by injection Option.some.inj e2
      obtain ⟨c0, f1, _⟩ := h.get 0 _ (List.getElem?_eq_getElem ne)
      rw [e2, List.getElem?_map] at f1
      cases k : us[0]? with
      | none => rw [k] at f1; cases f1
      | some y => rw [k] at f1; cases f1
    exact ⟨c, by rw [List.getElem?_append_left (by rw [h.len]; exact il)]; exact e1, by rw [upd_ne cW]; exact e2⟩
  · have ie : i = rows.length := by
      have := (List.getElem?_eq_some_iff.mp e).1
      rw [List.length_append] at this
      have : i < rows.length + 1 := this
      omega
    subst ie
    rw [List.getElem?_append_right (Nat.le_refl _), Nat.sub_self] at e
    have e : ws = us := Option.some.inj e
    subst e
    exact ⟨d, by rw [← h.len, List.getElem?_append_right (Nat.le_refl _), Nat.sub_self]; rfl, by rw [upd_ne dW]; exact hd⟩
theorem TextRows.one {H : Hp} {d : Addr} {ws : List Str} (hd : H d = some (.lst (ws.map V.str))) : TextRows H [.ref d] [ws] := ⟨rfl, fun i us e => by
  cases i with
  | zero => cases e; exact ⟨d, rfl, hd⟩
  | succ i => cases e⟩
def mrow (r z : Str) (n : Int) : List Str := [Str.ofString "machine", r, z, shI n]
def prow (w : Str) (e : Int × Str) : List Str := [w, shI e.1, shW e.2]
def arow (e : EnS.Arc) : List Str := [Str.ofString "arc", shI e.1, e.2.1, shW e.2.2.1, shI e.2.2.2]
def mvI (os : List Int) (i : Int) : Int := (os[i.toNat]?).getD 0
def mvP (os : List Int) (e : Int × Str) : Int × Str := (mvI os e.1, e.2)
def mvA (os : List Int) (e : EnS.Arc) : EnS.Arc := (mvI os e.1, e.2.1, e.2.2.1, mvI os e.2.2.2)
theorem mvI_at {os : List Int} {i : Int} (h0 : 0 ≤ i) (h1 : i < os.length) : atI (os.map V.int) i = some (.int (mvI os i)) := by
  obtain ⟨k, rfl⟩ := Int.eq_ofNat_of_zero_le h0
  have hk : k < os.length := by omega
  refine atI_nat ?_
  unfold mvI
  rw [List.getElem?_map, Int.toNat_natCast, List.getElem?_eq_getElem hk]
  rfl
end Lb

namespace DeT
open PySem PySem.Spec PyProof.Rows L2
/-! ### dict(enumerate(xs)) -/
/-- the pairs of place and item -/
def enumD (xs : List V) : List (L2.Key × V) := xs.zipIdx.map fun p => (Sum.inl ((p.2 : Nat) : Int), p.1)
theorem enumD_length (xs : List V) : (enumD xs).length = xs.length := by
  unfold enumD
  rw [List.length_map, List.length_zipIdx]
def tDictEnum (K : PySem.W.Frag) (ta : TE) : TE := fun σ H Q => ta σ H fun x H1 => ∃ a xs, x = .ref a ∧ SqL K H1 a xs ∧ ∀ q, H1 q = none → Q (.ref q) (upd H1 q (.dK (mergeK [] (enumD xs))))
theorem kv_enum : ∀ {xs : List V} {its : List Value} {k : Nat}, Vals xs its → KV ((xs.zipIdx k).map fun p => ((Sum.inl ((p.2 : Nat) : Int) : L2.Key), p.1)) ((its.zipIdx k).map fun p => ((Sum.inl ((p.2 : Nat) : Int) : L2.Key), p.1))
  | _, _, _, .nil => .nil
  | _, _, k, .cons h t => by
    rw [List.zipIdx_cons, List.zipIdx_cons, List.map_cons, List.map_cons]
    exact .cons ⟨rfl, h⟩ (kv_enum t)
section
variable {X : Cx} {e : Expr} {ta : TE} {p1 p2 pos1 pos2 : Pos}
theorem en_run {pins : List (Addr × Obj)} {s : Shared} {σ : L2.St} {H : Hp} {R : Addr → List V → Hp → Prop} (hg2 : Gl X "enumerate") (hm2 : X.mg "enumerate" = none) (he : PE X e ta) (na : starEach [e] X.env = (false, eval e X.env) :: starEach [] X.env)
    (I : Inv X pins σ H s) (h : ta σ H fun x H1 => ∃ a xs, x = .ref a ∧ SqL X.K H1 a xs ∧ R a xs H1) :
    wpAny (model X.prog X.w) X.A (eval (.Call (.Name "enumerate" p2) [e] [] pos2) X.env) (fun v s' => ∃ en it a xs H1, v = .ref en ∧ Inv X pins σ H1 s' ∧ IsEnum s'.heap en it 0 .none ∧ s'.heap.IsListIter it a 0 ∧ en ≠ it ∧ SqL X.K H1 a xs ∧ R a xs H1 ∧ ∀ b ∈ [en, it], FpOk X pins H1 b) X.xe s := by
  refine Call_ (ld_blt I hg2 hm2 boot_enumerate (PyProof.Rows.callWith_type1 (one_arg he I h (fun v s1 x H1 I1 r q => ?_) na) na))
  obtain ⟨a, xs, ex, hq, q⟩ := q
  subst ex
  obtain rfl : v = .ref a := r
  obtain ⟨its, rv, p', hz⟩ := I1.list hq
  refine call_enumerate_list p'.isList fun h' he hit hsz hk => ?_
  have I2 : Inv X pins σ H1 { s1 with heap := h' } := I1.kept (t' := s1.toks) hk
  refine ⟨s1.heap.objs.size + 1, s1.heap.objs.size, a, xs, H1, rfl, I2, he, hit, Nat.succ_ne_self _, hq, q, fun b hb => ?_⟩
  have hle : s1.heap.objs.size ≤ b := by
    rcases List.mem_cons.mp hb with z | z
    · rw [z]; exact Nat.le_add_right _ _
    · rw [List.mem_singleton.mp z]; exact Nat.le_refl _
  -- the addresses are new to the heap that was
  obtain ⟨f1, f2, f3, f4, f5, f6⟩ := I1.fpOk hle (I1.hok.fresh hle)
  exact ⟨f1, f2, f3, f4, f5, f6⟩
theorem pe_dictEnum (hc : X.calm = true) (hg : Gl X "dict") (hm : X.mg "dict" = none) (hg2 : Gl X "enumerate") (hm2 : X.mg "enumerate" = none) (he : PE X e ta) (na : starEach [e] X.env = (false, eval e X.env) :: starEach [] X.env := by rfl)
    (na2 : starEach [Expr.Call (.Name "enumerate" p2) [e] [] pos2] X.env = (false, eval (Expr.Call (.Name "enumerate" p2) [e] [] pos2) X.env) :: starEach [] X.env := by rfl) :
    PE X (.Call (.Name "dict" p1) [.Call (.Name "enumerate" p2) [e] [] pos2] [] pos1) (tDictEnum X.K ta) := by
  refine ⟨fun pins s σ H Q I h => ?_⟩
  refine Call_ (ld_blt I hg hm PyProof.Rows.boot_dict (PyProof.Rows.callWith_type1 (args_cons (thn (en_run (R := fun a xs H1 => ∀ q, H1 q = none → Q (.ref q) (upd H1 q (.dK (mergeK [] (enumD xs))))) hg2 hm2 he na I h) fun v s1 ⟨en, it, a, xs, H1, ev, I1, hen, hit, hne, hq, q, hf⟩ => args_nil ?_) na2) na2))
  subst ev
  obtain ⟨its, rv, pl, hz⟩ := I1.list hq
  have hl := pl.isList
  have ae : a ≠ en := fun z => by
    subst z
    obtain ⟨o, ho, hcl, _⟩ := hl
    rw [hen] at ho
    cases ho
    exact absurd (show Value.type "enumerate" = Value.type "list" from hcl) (by decide)
  have ai : a ≠ it := fun z => by
    subst z
    obtain ⟨o, ho, hcl, _⟩ := hl
    obtain ⟨o2, ho2, hc2, _⟩ := hit
    rw [ho2] at ho
    cases ho
    rw [hc2] at hcl
    exact absurd (show Value.type "list_iterator" = Value.type "list" from hcl) (by decide)
  refine PySem.call_dict_pairs (knd := mixKind X.prog X.w) (kvs := its.zipIdx.map fun p => ((Sum.inl ((p.2 : Nat) : Int) : L2.Key), p.1)) (PairArg.enumerate en it a hne ae ai its.toArray) (I1.ok.hd hc) ⟨⟨_, hen⟩, hit, hl⟩ ⟨by simp, fun i key v hr => ?_⟩ (by rw [List.size_toArray, ← rv.length]; exact hz) fun h' tk hd' k => ?_
  · obtain ⟨⟨t, rfl⟩, hv⟩ := hr
    refine ⟨.inl (i : Int), ?_, ?_⟩
    · rw [List.getElem?_map, List.getElem?_zipIdx]
      rw [List.getElem?_toArray] at hv
      rw [hv]
      simp
    · exact decide_eq_true rfl
  · have hmm : (s1.heap.objs.size == sysModules) = false := beq_eq_false_iff_ne.mpr (Nat.ne_of_gt I1.big)
    have hlen : (mergeK [] (enumD xs)).length ≤ sizeLine := by
      refine Nat.le_trans (length_mergeK _ []) ?_
      rw [List.length_nil, Nat.zero_add, enumD_length]
      exact hz
    refine ⟨.ref s1.heap.objs.size, upd H1 s1.heap.objs.size (.dK (mergeK [] (enumD xs))), I1.turnedNew (t' := tk) (ch := [en, it]) k hf (Nat.le_refl _) (show ObjOk X.prog X.w _ _ _ (.dK (mergeK [] (enumD xs))) from ⟨hlen, hmm, merged [] _, KV.merge (kv_enum rv) .nil, hd'⟩), rfl, q _ (I1.hok.fresh (Nat.le_refl _))⟩
end
/-- places are unlike: nothing is merged -/
theorem merge_enum : ∀ (xs : List V) (k : Nat) (acc : List (L2.Key × V)), (∀ kv ∈ acc, ∃ j : Nat, j < k ∧ kv.1 = Sum.inl (j : Int)) →
    mergeK acc ((xs.zipIdx k).map fun p => ((Sum.inl ((p.2 : Nat) : Int) : L2.Key), p.1)) = acc ++ (xs.zipIdx k).map fun p => ((Sum.inl ((p.2 : Nat) : Int) : L2.Key), p.1)
  | [], k, acc, _ => by simp [mergeK]
  | x :: xs, k, acc, h => by
    have no : (acc.any fun kv => decide (kv.1 = (Sum.inl (k : Int) : L2.Key))) = false := by
      rw [List.any_eq_false]
      intro kv m
      obtain ⟨j, lt, e⟩ := h kv m
      rw [e]
      simp
      omega
    have put : putK acc (Sum.inl (k : Int)) x = acc ++ [(Sum.inl (k : Int), x)] := by
      unfold putK
      rw [no]
      rfl
    rw [List.zipIdx_cons, List.map_cons]
    show mergeK (putK acc (Sum.inl (k : Int)) x) _ = _
    rw [put, merge_enum xs (k + 1) (acc ++ [(Sum.inl (k : Int), x)]) fun kv m => ?_]
    · simp
    · rcases List.mem_append.mp m with m | m
      · obtain ⟨j, lt, e⟩ := h kv m
        exact ⟨j, by omega, e⟩
      · rw [List.mem_singleton.mp m]
        exact ⟨k, by omega, rfl⟩
theorem val_enum (xs : List V) : ∀ (k i : Nat), valV ((xs.zipIdx k).map fun p => ((Sum.inl ((p.2 : Nat) : Int) : L2.Key), p.1)) (Sum.inl ((k + i : Nat) : Int)) = xs[i]? := by
  induction xs with
  | nil => intro k i; rfl
  | cons x xs ih =>
    intro k i
    rw [List.zipIdx_cons, List.map_cons]
    cases i with
    | zero => exact valV_pos rfl
    | succ i =>
      rw [valV_neg (fun z => by
        have : (k : Int) = ((k + (i + 1) : Nat) : Int) := Sum.inl.inj z
        omega)]
      have := ih (k + 1) i
      rw [show k + 1 + i = k + (i + 1) by omega] at this
      rw [this]
      rfl
theorem val_enumD (xs : List V) (i : Nat) : valV (mergeK [] (enumD xs)) (Sum.inl (i : Int)) = xs[i]? := by
  unfold enumD
  rw [merge_enum xs 0 [] (fun kv m => absurd m List.not_mem_nil), List.nil_append]
  have := val_enum xs 0 i
  rw [Nat.zero_add] at this
  exact this
end DeT

namespace Lb
open PySem PySem.Spec PyProof.Rows L2
theorem cut_drop_all {xs : List V} {k : Nat} : cutV xs (some (k : Int)) none = xs.drop k := by
  by_cases h : k ≤ xs.length
  · exact cut_drop h
  · unfold cutV
    rw [HT.sIx_nat, HT.sIx_none, Nat.min_eq_right (by omega), Nat.sub_self, List.take_zero, List.drop_eq_nil_of_le (by omega)]
theorem ixN_at {n k : Nat} (h : k < n) : ixN n (k : Int) = some k := by
  unfold ixN
  rw [if_pos (by omega), if_pos (by omega), Int.toNat_natCast]
/-- numbers that were met -/
def seenK (ks : List Int) : List (L2.Key × V) := ks.map fun i => (Sum.inl i, V.bl true)
theorem seen_any (ks : List Int) (i : Int) : ((seenK ks).any fun kv => decide (kv.1 = (Sum.inl i : L2.Key))) = decide (i ∈ ks) := by
  unfold seenK
  rw [List.any_map]
  induction ks with
  | nil => rfl
  | cons k ks ih =>
    rw [List.any_cons, ih]
    show (decide ((Sum.inl k : L2.Key) = Sum.inl i) || decide (i ∈ ks)) = decide (i ∈ k :: ks)
    by_cases h : k = i
    · subst h
      rw [decide_eq_true rfl, decide_eq_true (List.mem_cons_self)]
      rfl
    · rw [decide_eq_false (fun z => h (Sum.inl.inj z)), Bool.false_or]
      exact decide_eq_decide.mpr ⟨fun m => List.mem_cons_of_mem _ m, fun m => (List.mem_cons.mp m).resolve_left fun z => h z.symm⟩
theorem seen_put {ks : List Int} {i : Int} (h : i ∉ ks) : putK (seenK ks) (Sum.inl i) (.bl true) = seenK (ks ++ [i]) := by
  unfold putK
  rw [seen_any, decide_eq_false h]
  unfold seenK
  rw [List.map_append]
  rfl
theorem seen_some (ks : List Int) (i : Int) : (valV (seenK ks) (Sum.inl i : L2.Key)).isSome = decide (i ∈ ks) := by
  rw [← valV_any, seen_any]
/-- an order of the numbers below n -/
structure IsOrd (os : List Int) (n : Nat) : Prop where
  len : os.length = n
  low : ∀ i ∈ os, 0 ≤ i ∧ i ≤ (n : Int) - 1
  nd : os.Nodup
theorem GoodM.moved {r z : Str} {n : Nat} {bd : List (Int × Str)} {ad : List EnS.Arc} {ed : List (Int × Str)} {os : List Int} (g : GoodM r z n bd ad ed) (o : IsOrd os n) : GoodM r z n (bd.map (mvP os)) (ad.map (mvA os)) (ed.map (mvP os)) := by
  have at_ : ∀ i : Int, 0 ≤ i → i ≤ (n : Int) - 1 → 0 ≤ mvI os i ∧ mvI os i ≤ (n : Int) - 1 := fun i h0 h1 => by
    obtain ⟨k, rfl⟩ := Int.eq_ofNat_of_zero_le h0
    have lk : k < os.length := by rw [o.len]; omega
    unfold mvI
    rw [Int.toNat_natCast, List.getElem?_eq_getElem lk]
    exact o.low _ (List.getElem_mem lk)
  have gp : ∀ ds : List (Int × Str), (∀ e ∈ ds, GoodP z n e) → ∀ e ∈ ds.map (mvP os), GoodP z n e := fun ds h e m => by
    obtain ⟨x, mx, rfl⟩ := List.mem_map.mp m
    obtain ⟨h1, h2, h3, h4⟩ := h x mx
    exact ⟨(at_ _ h1 h2).1, (at_ _ h1 h2).2, h3, h4⟩
  refine ⟨g.ar, g.az, g.n0, g.n64, gp _ g.gb, fun e m => ?_, gp _ g.ge⟩
  obtain ⟨x, mx, rfl⟩ := List.mem_map.mp m
  obtain ⟨h1, h2, h3, h4, h5, h6, h7, h8⟩ := g.ga x mx
  exact ⟨(at_ _ h1 h2).1, (at_ _ h1 h2).2, h3, h4, h5, h6, (at_ _ h7 h8).1, (at_ _ h7 h8).2⟩
/-- what stands once has not been met -/
theorem fresh_at {os : List Int} {i : Nat} {j : Int} (nd : os.Nodup) (hj : os[i]? = some j) : j ∉ os.take i := fun z => by
  obtain ⟨i2, hi2⟩ := List.getElem?_of_mem z
  have l2 := (List.getElem?_eq_some_iff.mp hi2).1
  rw [List.length_take] at l2
  have hi3 : os[i2]? = some j := by
    rw [List.getElem?_take] at hi2
    split at hi2
    · exact hi2
    · cases hi2
  have li := (List.getElem?_eq_some_iff.mp hj).1
  have := (List.getElem_inj (h₀ := (List.getElem?_eq_some_iff.mp hi3).1) (h₁ := li) nd).mp ((List.getElem?_eq_some_iff.mp hi3).2.trans (List.getElem?_eq_some_iff.mp hj).2.symm)
  omega
/-- for i, e in enumerate(xs), over a list that stays -/
theorem for_enumL [Tabl] {K : PySem.W.Frag} {H : Hp} {p : Addr} {xs : List V} {g : TG} {tb : TS} {D : Ends} {σ : L2.St} (hp : SqL K H p xs) (Pv : Nat → L2.St → Hp → Prop) (h0 : Pv 0 σ H) (hs : ∀ i σ H', Pv i σ H' → SqL K H' p xs)
    (go : ∀ i x σ H' T, xs[i]? = some x → Pv i σ H' → H' T = none → g (.ref T) σ (upd H' T (.tup [.int (i : Nat), x])) fun σ2 H2 => tb { D with nx := Pv (i + 1), ct := Pv (i + 1), bk := D.nx } σ2 H2) (stop : ∀ σ H', Pv xs.length σ H' → D.nx σ H') :
    let F := fun (J : It) => ∃ W : Nat → Nat → L2.St → Hp → Prop, (∃ m, W 0 m σ H) ∧ ∀ i m σ H, W i m σ H →
      (J.stop i H ∧ D.nx σ H) ∨ (J.go i H ∧ ∃ N : L2.St → Hp → Prop, (∀ σ' H', N σ' H' → ∃ m', m' < m ∧ W (i + 1) m' σ' H') ∧ ∀ x H', J.yld i H x H' → g x σ H' fun σ2 H2 => tb { D with nx := N, ct := N, bk := D.nx } σ2 H2)
    (SqL K H p xs ∧ F (Ite K p)) ∨ (SqT K H p xs ∧ F (EnT.IteT K p)) := by
  refine .inl ⟨hp, EnT.for_any (n := xs.length) Pv h0 (fun i σ H' lt pv => ?_) (fun σ H' pv => ⟨⟨xs, hs _ _ _ pv, Nat.le_refl _⟩, stop σ H' pv⟩)⟩
  have sq : SqL K H' p xs := hs _ _ _ pv
  refine ⟨⟨xs, _, sq, List.getElem?_eq_getElem lt⟩, fun v H'' ⟨T, x, ev, nT, eH, ex⟩ => ?_⟩
  subst ev
  subst eH
  exact go i x σ H' T (ex xs sq) pv nT
/-- what is wrong with an order -/
def OrdFlt (H : Hp) (v : V) (n : Nat) : Flt → Prop
  | .shape => Shal H v ∧ ∀ p xs, v = .ref p → H p = some (.lst xs) → xs.length ≠ n ∧ xs.length ≤ 1000000
  | .large => False
  | .at k => ∃ (p : Addr) (xs : List V) (ks : List Int) (x : V), v = .ref p ∧ H p = some (.lst xs) ∧ xs.length = n ∧ xs.take k = ks.map V.int ∧ (∀ i ∈ ks, 0 ≤ i ∧ i ≤ (n : Int) - 1) ∧ ks.Nodup ∧ xs[k]? = some x ∧ Shal H x ∧ (inR x 0 ((n : Int) - 1) = false ∨ ∃ i, x = .int i ∧ 0 ≤ i ∧ i ≤ (n : Int) - 1 ∧ i ∈ ks)
/-- what the error tells -/
def dueO : Flt → List V
  | .at k => [.str (Str.ofString "BadEntry"), .str (Str.ofString "order"), .int (k : Nat)]
  | _ => [.str (Str.ofString "BadEntry"), .str (Str.ofString "order"), .non]
/-- two tests that change nothing -/
theorem or_pure {t u : TT} {σ : L2.St} {H : Hp} {Q : Bool → Hp → Prop} (c1 c2 : Bool) (h1 : ∀ Q', Q' c1 H → t σ H Q') (h2 : ∀ Q', Q' c2 H → u σ H Q') (q : Q (c1 || c2) H) : tOr t u σ H Q :=
  un_or (h1 _ (by
    cases c1 with
    | true => exact iteT q
    | false => exact iteF (h2 _ q)))
theorem and_pure {t u : TT} {σ : L2.St} {H : Hp} {Q : Bool → Hp → Prop} (c1 c2 : Bool) (h1 : ∀ Q', Q' c1 H → t σ H Q') (h2 : ∀ Q', Q' c2 H → u σ H Q') (q : Q (c1 && c2) H) : tAnd t u σ H Q :=
  h1 _ (by
    cases c1 with
    | true => exact iteT (h2 _ q)
    | false => exact iteF q)
/-- isinstance(e, (c1, c2, ..)), e the error that the suite holds -/
def rIsDT (K : PySem.W.Frag) (a : Addr) (cls : Value) (d : Option Addr) : List V → Hp → VK → Prop := fun xs H Q =>
  ∃ (D tp : Addr) (cs : List V) (us : List Value) (b : Bool), cls = .ref D ∧ ExcC K D ∧ xs = [.ref a, .ref tp] ∧ H tp = some (.tup cs) ∧ Paired ClsV cs us ∧ (∀ dd, d = some dd → ∃ fs, H dd = some (.xd fs)) ∧ PySem.W.kitAny K (.ref D) us = some b ∧ Q (.bl b) H
theorem call_isDT {X : Cx} {a : Addr} {cls : Value} {d : Option Addr} {oe : Obj} {pn : List (Addr × Obj)} (hz : Zc cls d oe) (hf : ∃ vs, oe.data = .fields vs) : CallR (X.suite a ((a, oe) :: pn)) (.builtin "isinstance") (rIsDT X.K a cls d) := by
  intro pins s σ H xs us Q I r h
  obtain ⟨D, tp, cs, ws, b, rfl, C, rfl, hT, k, dict, e, q⟩ := h
  obtain ⟨u1, u2, rfl, r1, r2⟩ := vals2 r
  cases r1
  cases (show u2 = Value.ref tp from r2)
  obtain ⟨at_, _⟩ := I.pin (a, oe) (List.mem_append_left _ List.mem_cons_self)
  obtain ⟨vs, data⟩ := hf
  obtain ⟨od, J⟩ : ∃ od, PySem.W.InstAt s.heap a oe D od := by
    have no : PySem.W.notCls oe = true := by
      unfold PySem.W.notCls
      rw [data] <;> rfl
    cases d with
    | none => exact ⟨none, at_, hz.1, no, by rw [hz.2]; trivial⟩
    | some dd =>
      obtain ⟨fs, hd⟩ := dict dd rfl
      obtain ⟨mA, ns, _⟩ := (show ObjOk X.prog X.w H s.heap dd (.xd fs) from I.hok dd _ hd)
      obtain ⟨od, ho, _⟩ := lookIn_ns ns
      exact ⟨some od, at_, hz.1, no, by rw [hz.2]; exact ho⟩
  have some_ : (PySem.W.clsIn X.K D).isSome = true := by
    obtain ⟨cd, hc, _⟩ := PySem.W.any_some C.hd
    rw [hc]
    rfl
  obtain ⟨_, its, rv, o, h1, h2, n, h3⟩ := (show ObjOk X.prog X.w H s.heap tp (.tup cs) from I.hok tp _ hT)
  have e3 := ClsV.all k rv
  subst e3
  obtain ⟨oc, od', dt, sl⟩ := o
  simp only at h2 h3
  subst h2 h3
  exact PySem.W.kia_tup (PySem.W.kitx_exc some_ C.hg C.hk C.hs C.ha C.hn C.ht C.hm) I.kIn J h1 e (fun z => nomatch z) fun tk => ⟨.bl b, H, I.kept (t' := tk) fun _ _ z => z, rfl, q⟩
theorem any_no {K : PySem.W.Frag} {t c : Value} {cs : List Value} (h : PySem.W.kitOne K t c = some false) (k : PySem.W.kitAny K t cs = some false) : PySem.W.kitAny K t (c :: cs) = some false := kitAny_cons h (fun _ => k) (fun z => by cases z)
theorem any_end {K : PySem.W.Frag} {t : Value} : PySem.W.kitAny K t [] = some false := rfl
theorem any_yes {K : PySem.W.Frag} {t c : Value} {cs : List Value} (h : PySem.W.kitOne K t c = some true) : PySem.W.kitAny K t (c :: cs) = some true := kitAny_cons h (fun z => by cases z) (fun _ => rfl)
theorem SameD.shal {H : Hp} {n : Nat} {u v : V} (h : SameD n H u v) (s : Shal H v) : Shal H u := by
  have key : ∀ rel, SameR rel H u v → Shal H u := by
    rintro rel (⟨rfl, _⟩ | ⟨p, q, xs, ys, rfl, rfl, o, _⟩)
    · exact s
    · exact .inr (.inr (.inr (.inr ⟨p, xs, rfl, o.elim (fun z => .inr z.1) fun z => .inl z.1⟩)))
  cases n with
  | zero => exact key _ h
  | succ n => exact key _ h
/-- the same fault in the copy -/
theorem OrdFlt.copied [Tabl] {H H2 : Hp} {u v : V} {n m : Nat} {f : Flt} (h : OrdFlt H v n f) (s : Same H H2) (k : SameD (m + 1) H2 u v) : OrdFlt H2 u n f := by
  cases f with
  | large => exact h
  | shape =>
    obtain ⟨sh, ne⟩ := h
    refine ⟨k.shal (sh.same s), fun p xs e hp => ?_⟩
    subst e
    rcases k with ⟨rfl, pl⟩ | ⟨p', q, xs', ys, e1, rfl, o, l, l6, _⟩
    · cases pl
    · cases e1
      obtain ⟨zs, hz⟩ := shal_row sh
      rcases o with ⟨o1, o2⟩ | ⟨o1, o2⟩
      · rw [hp] at o1
        cases o1
      · rw [hp] at o1
        cases o1
        rcases hz with hz | hz
        · have := s _ _ hz
          rw [o2] at this
          cases this
          rw [l]
          exact ne q _ rfl hz
        · have := s _ _ hz
          rw [o2] at this
          cases this
  | «at» j =>
    obtain ⟨p, xs, ks, x, rfl, hp, lx, tk, low, nd, hx, sx, bad⟩ := h
    obtain ⟨u', us, rfl, hu, lu, r⟩ := samed_lst k (s _ _ hp)
    have lj := (List.getElem?_eq_some_iff.mp hx).1
    have hx' : us[j]? = some us[j] := List.getElem?_eq_getElem (by omega)
    have rj := r j _ _ hx' hx
    refine ⟨u', us, ks, us[j], rfl, hu, by omega, ?_, low, nd, hx', rj.shal (sx.same s), ?_⟩
    · rw [← tk]
      refine List.ext_getElem? fun i => ?_
      rw [List.getElem?_take, List.getElem?_take]
      by_cases ij : i < j
      · rw [if_pos ij, if_pos ij]
        have e1 : us[i]? = some us[i] := List.getElem?_eq_getElem (by omega)
        have e2 : xs[i]? = some xs[i] := List.getElem?_eq_getElem (by omega)
        have e3 : (xs.take j)[i]? = some xs[i] := by rw [List.getElem?_take, if_pos ij, e2]
        rw [tk, List.getElem?_map] at e3
        cases e4 : ks[i]? with
        | none => rw [e4] at e3; cases e3
        | some z =>
          rw [e4] at e3
          have e5 : V.int z = xs[i] := Option.some.inj e3
          rw [e1, e2, samed_plain (r i _ _ e1 e2) (by rw [← e5]; rfl)]
      · rw [if_neg ij, if_neg ij]
    · rcases bad with bad | ⟨i, rfl, b⟩
      · refine .inl ?_
        rcases sx with ⟨z, rfl, _⟩ | rfl | ⟨z, rfl⟩ | ⟨z, rfl⟩ | ⟨z, zs, rfl, _⟩
        · rw [samed_plain rj rfl]; exact bad
        · rw [samed_plain rj rfl]; exact bad
        · rw [samed_plain rj rfl]; exact bad
        · rw [samed_plain rj rfl]; exact bad
        · have key : ∀ rel, SameR rel H2 us[j] (.ref z) → inR us[j] 0 ((n : Int) - 1) = false := by
            rintro rel (⟨_, pl⟩ | ⟨p1, q1, _, _, e1, _⟩)
            · cases pl
            · rw [e1]; rfl
          cases m with
          | zero => exact key _ rj
          | succ m => exact key _ rj
      · rw [samed_plain rj rfl]
        exact .inr ⟨i, rfl, b⟩
theorem OrdFlt.same [Tabl] {H H2 : Hp} {v : V} {n : Nat} {f : Flt} (h : OrdFlt H v n f) (s : Same H H2) : OrdFlt H2 v n f := by
  cases f with
  | large => exact h
  | shape =>
    obtain ⟨sh, ne⟩ := h
    refine ⟨sh.same s, fun p xs e hp => ?_⟩
    subst e
    obtain ⟨zs, hz | hz⟩ := shal_row sh
    · rw [s _ _ hz] at hp
      cases hp
      exact ne p _ rfl hz
    · rw [s _ _ hz] at hp
      cases hp
  | «at» j =>
    obtain ⟨p, xs, ks, x, e, hp, lx, tk, low, nd, hx, sx, bad⟩ := h
    exact ⟨p, xs, ks, x, e, s _ _ hp, lx, tk, low, nd, hx, sx.same s, bad⟩
def lineM (r z : Str) (n : Int) : Str := Str.empty ++ Str.ofString "machine " ++ r ++ Str.ofString " " ++ z ++ Str.ofString " " ++ shI n
def lineP (w : Str) (e : Int × Str) : Str := Str.empty ++ w ++ shI e.1 ++ Str.ofString " " ++ shW e.2
def lineA (e : EnS.Arc) : Str := Str.empty ++ Str.ofString "arc " ++ shI e.1 ++ Str.ofString " " ++ e.2.1 ++ Str.ofString " " ++ shW e.2.2.1 ++ Str.ofString " " ++ shI e.2.2.2
def textM (r z : Str) (n : Int) (bd : List (Int × Str)) (ad : List EnS.Arc) (ed : List (Int × Str)) : Str := Txt.join (Str.ofString "\n") (([lineM r z n] ++ bd.map (lineP (Str.ofString "begin ")) ++ ad.map lineA) ++ ed.map (lineP (Str.ofString "end ")))
def rowsM (r z : Str) (n : Int) (bd : List (Int × Str)) (ad : List EnS.Arc) (ed : List (Int × Str)) : List (List Str) := ([mrow r z n] ++ bd.map (prow (Str.ofString "begin")) ++ ad.map arow) ++ ed.map (prow (Str.ofString "end"))
theorem join_cons2 (a x y : Str) (r : List Str) : Txt.join a (x :: y :: r) = x ++ a ++ Txt.join a (y :: r) := by
  unfold Txt.join
  first
    | rfl
    | (rw [StrLaws.glued_eq_join, StrLaws.glued_eq_join]; rfl)
theorem join_one (a x : Str) : Txt.join a [x] = x := rfl
theorem cs_emp : cs Str.empty = [] := rfl
theorem lineM_eq (r z : Str) (n : Int) : lineM r z n = Txt.join (Str.ofString " ") (mrow r z n) := by
  unfold lineM mrow
  rw [join_cons2, join_cons2, join_cons2, join_one]
  refine cs_ext ?_
  have e : cs (Str.ofString "machine ") = cs (Str.ofString "machine") ++ cs (Str.ofString " ") := by decide +kernel
  simp only [cs_app, cs_emp, e, List.nil_append, List.append_assoc]
theorem lineP_eq {w w' : Str} (h : cs w = cs w' ++ cs (Str.ofString " ")) (e : Int × Str) : lineP w e = Txt.join (Str.ofString " ") (prow w' e) := by
  unfold lineP prow
  rw [join_cons2, join_cons2, join_one]
  refine cs_ext ?_
  simp only [cs_app, cs_emp, h, List.nil_append, List.append_assoc]
theorem lineA_eq (e : EnS.Arc) : lineA e = Txt.join (Str.ofString " ") (arow e) := by
  unfold lineA arow
  rw [join_cons2, join_cons2, join_cons2, join_cons2, join_one]
  refine cs_ext ?_
  have e : cs (Str.ofString "arc ") = cs (Str.ofString "arc") ++ cs (Str.ofString " ") := by decide +kernel
  simp only [cs_app, cs_emp, e, List.nil_append, List.append_assoc]
/-- the text of a machine, by its rows -/
theorem textM_eq (r z : Str) (n : Int) (bd : List (Int × Str)) (ad : List EnS.Arc) (ed : List (Int × Str)) : textM r z n bd ad ed = Txt.join (Str.ofString "\n") ((rowsM r z n bd ad ed).map (Txt.join (Str.ofString " "))) := by
  unfold textM rowsM
  rw [List.map_append, List.map_append, List.map_append, List.map_map, List.map_map, List.map_map, List.map_cons, List.map_nil, lineM_eq]
  rw [List.map_congr_left (f := lineP (Str.ofString "begin ")) fun e _ => lineP_eq (w' := Str.ofString "begin") (by decide +kernel) e, List.map_congr_left (f := lineP (Str.ofString "end ")) fun e _ => lineP_eq (w' := Str.ofString "end") (by decide +kernel) e, List.map_congr_left (f := lineA) fun e _ => lineA_eq e]
  rfl
theorem rowsM_small {r z : Str} {n : Int} {bd : List (Int × Str)} {ad : List EnS.Arc} {ed : List (Int × Str)} (g : GoodM r z n bd ad ed) (lb : bd.length ≤ 400) (la : ad.length ≤ 400) (le : ed.length ≤ 400) :
    (rowsM r z n bd ad ed).length ≤ 1300 ∧ ∀ ws ∈ rowsM r z n bd ad ed, ws.length ≤ 10 ∧ ∀ y ∈ ws, y.length ≤ 500 := by
  have shi : ∀ i : Int, 0 ≤ i → i ≤ 64 → (shI i).length ≤ 500 := fun i h0 h1 => Nat.le_trans (shI_len h0 h1) (by decide)
  have n64 := g.n64
  have gp : ∀ (w : Str) (ds : List (Int × Str)), w.length ≤ 500 → (∀ e ∈ ds, GoodP z n e) → ∀ ws ∈ ds.map (prow w), ws.length ≤ 10 ∧ ∀ y ∈ ws, y.length ≤ 500 := fun w ds hw h ws m => by
    obtain ⟨e, me, rfl⟩ := List.mem_map.mp m
    obtain ⟨h1, h2, h3, h4⟩ := h e me
    have := shW_len e.2
    refine ⟨by show 3 ≤ 10; decide, List.forall_mem_cons.mpr ⟨hw, List.forall_mem_cons.mpr ⟨shi _ h1 (by omega), List.forall_mem_cons.mpr ⟨by omega, fun x m => absurd m List.not_mem_nil⟩⟩⟩⟩
  constructor
  · unfold rowsM
    simp only [List.length_append, List.length_map, List.length_cons, List.length_nil]
    omega
  · intro ws m
    unfold rowsM at m
    rcases List.mem_append.mp m with m | m
    · rcases List.mem_append.mp m with m | m
      · rcases List.mem_append.mp m with m | m
        · rw [List.mem_singleton.mp m]
          refine ⟨by show 4 ≤ 10; decide, List.forall_mem_cons.mpr ⟨by decide +kernel, List.forall_mem_cons.mpr ⟨Nat.le_trans g.ar.len4 (by decide), List.forall_mem_cons.mpr ⟨Nat.le_trans g.az.len4 (by decide), List.forall_mem_cons.mpr ⟨shi _ g.n0 n64, fun x m => absurd m List.not_mem_nil⟩⟩⟩⟩⟩
        · exact gp _ _ (by decide +kernel) g.gb ws m
      · obtain ⟨e, me, rfl⟩ := List.mem_map.mp m
        obtain ⟨h1, h2, h3, h4, h5, h6, h7, h8⟩ := g.ga e me
        have := shW_len e.2.2.1
        exact ⟨by show 5 ≤ 10; decide, List.forall_mem_cons.mpr ⟨by decide +kernel, List.forall_mem_cons.mpr ⟨shi _ h1 (by omega), List.forall_mem_cons.mpr ⟨by omega, List.forall_mem_cons.mpr ⟨by omega, List.forall_mem_cons.mpr ⟨shi _ h7 (by omega), fun x m => absurd m List.not_mem_nil⟩⟩⟩⟩⟩⟩
    · exact gp _ _ (by decide +kernel) g.ge ws m
/-! ### an order and its inverse -/
theorem IsOrd.mem {os : List Int} {n : Nat} (o : IsOrd os n) {k : Nat} (h : k < n) : (k : Int) ∈ os := Classical.byContradiction fun no => by
  have nd : (k :: os.map Int.toNat).Nodup := by
    refine List.nodup_cons.mpr ⟨fun m => ?_, ?_⟩
    · obtain ⟨i, mi, e⟩ := List.mem_map.mp m
      have := o.low i mi
      exact no (by rw [← e, Int.toNat_of_nonneg this.1]; exact mi)
    · refine List.pairwise_map.mpr (List.Pairwise.imp_of_mem (R := fun a b => a ≠ b) (fun {a b} ma mb ne e => ne ?_) o.nd)
      have h1 := o.low a ma
      have h2 := o.low b mb
      omega
  have := nodup_len (k :: os.map Int.toNat) (List.range n) nd fun x m => by
    rcases List.mem_cons.mp m with rfl | m
    · exact List.mem_range.mpr h
    · obtain ⟨i, mi, rfl⟩ := List.mem_map.mp m
      have := o.low i mi
      exact List.mem_range.mpr (by omega)
  rw [List.length_cons, List.length_map, List.length_range, o.len] at this
  omega
def invO (os : List Int) (n : Nat) : List Int := (List.range n).map fun (k : Nat) => ((os.idxOf ((k : Nat) : Int) : Nat) : Int)
theorem IsOrd.at {os : List Int} {n : Nat} (o : IsOrd os n) {k : Nat} (h : k < n) : os[os.idxOf (k : Int)]? = some (k : Int) := by
  have l := List.idxOf_lt_length_of_mem (o.mem h)
  rw [List.getElem?_eq_getElem l, List.getElem_idxOf l]
theorem IsOrd.first {os : List Int} {n : Nat} (o : IsOrd os n) {k m : Nat} (h : k < n) (lt : m < os.idxOf (k : Int)) : os[m]? ≠ some (k : Int) := fun e => by
  have l := List.idxOf_lt_length_of_mem (o.mem h)
  have lm := (List.getElem?_eq_some_iff.mp e).1
  have := (List.getElem_inj (h₀ := lm) (h₁ := l) o.nd).mp ((List.getElem?_eq_some_iff.mp e).2.trans (List.getElem_idxOf l).symm)
  omega
theorem IsOrd.inv {os : List Int} {n : Nat} (o : IsOrd os n) : IsOrd (invO os n) n := by
  refine ⟨by unfold invO; rw [List.length_map, List.length_range], fun i m => ?_, ?_⟩
  · obtain ⟨k, mk, rfl⟩ := List.mem_map.mp m
    have := List.idxOf_lt_length_of_mem (o.mem (List.mem_range.mp mk))
    have := o.len
    omega
  · refine List.pairwise_map.mpr (List.Pairwise.imp_of_mem (R := fun a b => a ≠ b) (fun {a b} ma mb ne e => ne ?_) List.nodup_range)
    have h1 := o.at (List.mem_range.mp ma)
    have h2 := o.at (List.mem_range.mp mb)
    have e' : os.idxOf (a : Int) = os.idxOf (b : Int) := by omega
    rw [e', h2] at h1
    have := Option.some.inj h1
    omega
theorem IsOrd.back {os : List Int} {n : Nat} (o : IsOrd os n) {i : Int} (h0 : 0 ≤ i) (h1 : i ≤ (n : Int) - 1) : mvI (invO os n) (mvI os i) = i := by
  obtain ⟨k, rfl⟩ := Int.eq_ofNat_of_zero_le h0
  have lk : k < os.length := by rw [o.len]; omega
  have e1 : mvI os (k : Int) = os[k] := by
    unfold mvI
    rw [Int.toNat_natCast, List.getElem?_eq_getElem lk]
    rfl
  have lw := o.low _ (List.getElem_mem lk)
  obtain ⟨j, hj⟩ := Int.eq_ofNat_of_zero_le lw.1
  have jn : j < n := by omega
  rw [e1, hj]
  unfold mvI invO
  rw [Int.toNat_natCast, List.getElem?_map, List.getElem?_range jn]
  show ((os.idxOf (j : Int) : Nat) : Int) = (k : Int)
  have l := List.idxOf_lt_length_of_mem (o.mem jn)
  have := (List.getElem_inj (h₀ := l) (h₁ := lk) o.nd).mp ((List.getElem_idxOf l).trans hj.symm)
  rw [this]
/-! ### places of whole numbers in a list -/
theorem dp_ints {K : PySem.W.Frag} {H : Hp} : ∀ ns : List Int, DpAll K H (ns.map V.int) (ns.map PyData.int)
  | [] => .nil
  | n :: ns => .cons (.int n) (dp_ints ns)
theorem shaped_ints (ns : List Int) : SeqAt.shaped (.list (ns.map PyData.int)) = true := by
  have c : ∀ ns : List Int, PyData.canLayAll0 (ns.map PyData.int) = true := fun ns => by
    induction ns with
    | nil => simp [PyData.canLayAll0]
    | cons a ns ih => rw [List.map_cons, PyData.canLayAll0, ih]; simp [PyData.canLay0]
  have d : ∀ ns : List Int, PyData.depthAll (ns.map PyData.int) = 0 := fun ns => by
    induction ns with
    | nil => simp [PyData.depthAll]
    | cons a ns ih => rw [List.map_cons, PyData.depthAll, ih]; simp [PyData.depth]
  unfold SeqAt.shaped
  rw [PyData.canLay0, c, PyData.depth, d]
  simp
theorem shaped_int (i : Int) : SeqAt.shaped (.int i) = true := by simp [SeqAt.shaped, PyData.canLay0, PyData.depth]
/-- l.index(i), a list of whole numbers -/
def rIdxI (K : PySem.W.Frag) : V → List V → Hp → VK → Prop := fun x xs H Q => ∃ (a : Addr) (i : Int) (ns : List Int) (j : Nat), x = V.ref a ∧ xs = [.int i] ∧ SqL K H a (ns.map V.int) ∧ ns[j]? = some i ∧ (∀ m, m < j → ns[m]? ≠ some i) ∧ Q (.int (j : Nat)) H
theorem mt_indexI {X : Cx} (K : PySem.W.Frag) (h : X.K = K) (hu : X.A.units + 65 < cLine) : MtR X "list.index" (rIdxI K) := by
  subst h
  intro pins s σ H x xs v us Q I rx rxs h
  obtain ⟨a, i, ns, j, rfl, rfl, hs, hj, no, q⟩ := h
  refine mt_indexD hu pins s σ H _ _ v us Q I rx rxs ⟨a, _, .int i, ns.map PyData.int, j, .int i, rfl, rfl, .lst hs (dp_ints ns), .int i, shaped_ints ns, shaped_int i, by rw [List.getElem?_map, hj]; rfl, by simp [PyData.eqv], fun m z lt hz => ?_, q⟩
  rw [List.getElem?_map] at hz
  cases e : ns[m]? with
  | none => rw [e] at hz; cases hz
  | some y =>
    rw [e] at hz
    have ez : PyData.int y = z := Option.some.inj hz
    subst ez
    have : y ≠ i := fun z => no m lt (by rw [e, z])
    simp [PyData.eqv, this]
/-- two tuples of a machine's parts -/
theorem parts_samed {H : Hp} {t t' b c e b' c' e' : Addr} {r z : Str} {n : Int} {bx ax ex bx' ax' ex' : List V} {bd : List (Int × Str)} {ad : List EnS.Arc} {ed : List (Int × Str)} {k : Nat} (h : H t = some (.tup [.str r, .str z, .int n, .ref b, .ref c, .ref e])) (h' : H t' = some (.tup [.str r, .str z, .int n, .ref b', .ref c', .ref e']))
    (hb : H b = some (.lst bx)) (hc : H c = some (.lst ax)) (he : H e = some (.lst ex)) (hb' : H b' = some (.lst bx')) (hc' : H c' = some (.lst ax')) (he' : H e' = some (.lst ex')) (eb : EntL pimg H bx bd) (ea : EntL aimg H ax ad) (ee : EntL pimg H ex ed) (eb' : EntL pimg H bx' bd) (ea' : EntL aimg H ax' ad) (ee' : EntL pimg H ex' ed)
    (lb : bd.length ≤ 1000) (la : ad.length ≤ 1000) (le : ed.length ≤ 1000) : SameD (k + 3) H (.ref t) (.ref t') :=
  .inr ⟨t, t', _, _, rfl, rfl, .inl ⟨h, h'⟩, rfl, by show 6 ≤ 1000000; decide, fun i x y ex ey => by
    match i, ex, ey with
    | 0, rfl, rfl => exact .inl ⟨rfl, rfl⟩
    | 1, rfl, rfl => exact .inl ⟨rfl, rfl⟩
    | 2, rfl, rfl => exact .inl ⟨rfl, rfl⟩
    | 3, rfl, rfl => exact rows_samed pimg_ok hb hb' eb eb' (by omega)
    | 4, rfl, rfl => exact rows_samed aimg_ok hc hc' ea ea' (by omega)
    | 5, rfl, rfl => exact rows_samed pimg_ok he he' ee ee' (by omega)⟩
theorem MA.butx [Tabl] {a : Addr} {H H' : Hp} {C m dx u v w : Addr} {r z : Str} {n : Int} {bx ax ex : List V} {bd : List (Int × Str)} {ad : List EnS.Arc} {ed : List (Int × Str)} {zs : List V} (h : MA C H m r z n dx u v w bx ax ex bd ad ed) (k : But a H H') (ha : H a = some (.lst zs)) (h1 : u ≠ a) (h2 : v ≠ a) (h3 : w ≠ a) : MA C H' m r z n dx u v w bx ax ex bd ad ed := by
  have hm : m ≠ a := fun e => by
    have := h.ins
    rw [e, ha] at this
    cases this
  have nt : ∀ zs, H a ≠ some (.tup zs) := fun ys e => by rw [ha] at e; cases e
  exact ⟨k _ _ hm h.ins, k _ _ h1 h.hb, k _ _ h2 h.ha, k _ _ h3 h.he, h.nb.butN k nt, h.na.butN k nt, h.ne.butN k nt⟩
theorem pe_bmK {X : Cx} (K : PySem.W.Frag) (hK : X.K = K) {T : String} {id : String} {name : Str} {r : V → List V → Hp → VK → Prop} {o e : Expr} {es : List Expr} {to : TE} {t : TA} {apos cpos : Pos} (pa : PlainAttrs T) (slot : Slot T name id) (hty : typeOf (.builtin id) = pure (.type "method_descriptor")) (hm : MtR X id r) (ho : PE X o to) (ha : PA X (e :: es) t)
    (hbase : attributeBase o name X.env (eval o X.env) = eval o X.env := by rfl)
    (hfew : ((backTo cpos (starEach (e :: es) X.env)).all (fun x => !x.1) && (backToKw cpos (keywordEach [] X.env)).all (fun x => x.1.isSome)
      && decide ((e :: es).length + ([] : List Keyword).length + (if ([] : List Keyword).isEmpty then 0 else 1) < 30)) = true := by rfl)
    (hline : (apos.endLine == cpos.line) = true := by rfl) (hs : starEach (e :: es) X.env = (false, eval e X.env) :: starEach es X.env := by rfl) (hplain : (backTo cpos (starEach es X.env)).any (·.1) = false := by rfl) :
    PE X (.Call (.Attribute o name apos) (e :: es) [] cpos) (tBM K T r to t) := by
  rw [← hK]
  exact pe_bm pa slot hty hm ho ha hbase hfew hline hs hplain
/-- the drawn parts of a machine, in a tuple -/
structure PT (a : Addr) (H : Hp) (p : Addr) (r z : Str) (n : Nat) (be : List (Int × Str)) (ae : List EnS.Arc) (ee : List (Int × Str)) (b c e : Addr) (bx ax ex : List V) : Prop where
  g : GoodM r z n be ae ee
  hp : H p = some (.tup [.str r, .str z, .int n, .ref b, .ref c, .ref e])
  hb : H b = some (.lst bx)
  hc : H c = some (.lst ax)
  he : H e = some (.lst ex)
  lb : bx.length ≤ 400
  la : ax.length ≤ 400
  le : ex.length ≤ 400
  eb : EntL pimg H bx be
  ea : EntL aimg H ax ae
  ee' : EntL pimg H ex ee
  pa : p ≠ a
  ba : b ≠ a
  ca : c ≠ a
  na : e ≠ a
section
variable {a p b c e : Addr} {H H' : Hp} {r z : Str} {n : Nat} {be : List (Int × Str)} {ae : List EnS.Arc} {ee : List (Int × Str)} {bx ax ex : List V}
theorem PT.but [Tabl] {s : Addr} (h : PT a H p r z n be ae ee b c e bx ax ex) (k : But a H H') (S : Sto H a s) : PT a H' p r z n be ae ee b c e bx ax ex :=
  ⟨h.g, k _ _ h.pa h.hp, k _ _ h.ba h.hb, k _ _ h.ca h.hc, k _ _ h.na h.he, h.lb, h.la, h.le, h.eb.butN k S.ntup, h.ea.butN k S.ntup, h.ee'.butN k S.ntup, h.pa, h.ba, h.ca, h.na⟩
theorem PT.same [Tabl] (h : PT a H p r z n be ae ee b c e bx ax ex) (k : Same H H') : PT a H' p r z n be ae ee b c e bx ax ex :=
  ⟨h.g, k _ _ h.hp, k _ _ h.hb, k _ _ h.hc, k _ _ h.he, h.lb, h.la, h.le, h.eb.same k, h.ea.same k, h.ee'.same k, h.pa, h.ba, h.ca, h.na⟩
theorem PT.lens (h : PT a H p r z n be ae ee b c e bx ax ex) : be.length ≤ 400 ∧ ae.length ≤ 400 ∧ ee.length ≤ 400 := by
  have h1 := h.eb.len
  have h2 := h.ea.len
  have h3 := h.ee'.len
  have := h.lb
  have := h.la
  have := h.le
  omega
/-- three drawn rows make it -/
theorem pt_drawn {ca : Addr} {H0 : Hp} {n : Int} {N M L : Nat} (n0 : 0 ≤ n) (n64 : n ≤ 64) (ar : IsAlpha r) (az : IsAlpha z) (r1 : RowN pimg (GoodP z n) a ca H0 H b N) (r2 : RowN aimg (GoodA r z n) a ca H0 H c M) (r3 : RowN pimg (GoodP z n) a ca H0 H e L) (hN : N ≤ 400) (hM : M ≤ 400) (hL : L ≤ 400)
    (hp : H p = some (.tup [.str r, .str z, .int n, .ref b, .ref c, .ref e])) (pa : p ≠ a) : ∃ (k : Nat) (be : List (Int × Str)) (ae : List EnS.Arc) (ee : List (Int × Str)) (bx ax ex : List V), n = (k : Int) ∧ PT a H p r z k be ae ee b c e bx ax ex := by
  obtain ⟨k, rfl⟩ := Int.eq_ofNat_of_zero_le n0
  obtain ⟨bx, be, _, h2, _, h4, h5, h6, h7⟩ := r1
  obtain ⟨ax, ae, _, i2, _, i4, i5, i6, i7⟩ := r2
  obtain ⟨ex, ee, _, j2, _, j4, j5, j6, j7⟩ := r3
  exact ⟨k, be, ae, ee, bx, ax, ex, rfl, ⟨ar, az, n0, n64, h6, i6, j6⟩, hp, h4, i4, j4, by omega, by omega, by omega, h5, i5, j5, pa, h2, i2, j2⟩
end
theorem Srt.refl {α : Type} {lt : α → α → Prop} {ds es : List α} (h : Srt lt ds es) : Srt lt ds ds := ⟨h.pw, fun _ => Iff.rfl, Nat.le_refl _, h.l4⟩
/-- the numbers below n, drawn in some order -/
theorem ord_perm {ps : List Nat} {n : Nat} (h : ps.Perm (List.range n)) : IsOrd (ps.map fun (i : Nat) => (i : Int)) n := by
  refine ⟨by rw [List.length_map, h.length_eq, List.length_range], fun i m => ?_, nodup_map (fun a b e => Int.ofNat.inj e) (h.nodup_iff.mpr List.nodup_range)⟩
  obtain ⟨j, mj, rfl⟩ := List.mem_map.mp m
  have := List.mem_range.mp (h.mem_iff.mp mj)
  omega
/-- one order behind the other -/
def compO (os qs : List Int) (n : Nat) : List Int := (List.range n).map fun (k : Nat) => mvI qs (mvI os (k : Int))
theorem IsOrd.at_ {os : List Int} {n : Nat} (o : IsOrd os n) {i : Int} (h0 : 0 ≤ i) (h1 : i ≤ (n : Int) - 1) : 0 ≤ mvI os i ∧ mvI os i ≤ (n : Int) - 1 := by
  obtain ⟨k, rfl⟩ := Int.eq_ofNat_of_zero_le h0
  have lk : k < os.length := by rw [o.len]; omega
  unfold mvI
  rw [Int.toNat_natCast, List.getElem?_eq_getElem lk]
  exact o.low _ (List.getElem_mem lk)
theorem compO_at {os qs : List Int} {n : Nat} {i : Int} (h0 : 0 ≤ i) (h1 : i ≤ (n : Int) - 1) : mvI (compO os qs n) i = mvI qs (mvI os i) := by
  obtain ⟨k, rfl⟩ := Int.eq_ofNat_of_zero_le h0
  have lk : k < n := by omega
  show ((compO os qs n)[((k : Nat) : Int).toNat]?).getD 0 = _
  unfold compO
  rw [Int.toNat_natCast, List.getElem?_map, List.getElem?_range lk]
  rfl
theorem IsOrd.comp {os qs : List Int} {n : Nat} (o : IsOrd os n) (q : IsOrd qs n) : IsOrd (compO os qs n) n := by
  refine ⟨by unfold compO; rw [List.length_map, List.length_range], fun i m => ?_, ?_⟩
  · obtain ⟨k, mk, rfl⟩ := List.mem_map.mp m
    have := List.mem_range.mp mk
    have h := o.at_ (i := (k : Int)) (by omega) (by omega)
    exact q.at_ h.1 h.2
  · refine List.pairwise_map.mpr (List.Pairwise.imp_of_mem (R := fun a b => a ≠ b) (fun {a b} ma mb ne e => ne ?_) List.nodup_range)
    have h1 := List.mem_range.mp ma
    have h2 := List.mem_range.mp mb
    have i1 := o.at_ (i := (a : Int)) (by omega) (by omega)
    have i2 := o.at_ (i := (b : Int)) (by omega) (by omega)
    have e1 := congrArg (mvI (invO qs n)) e
    rw [q.back i1.1 i1.2, q.back i2.1 i2.2] at e1
    have e2 := congrArg (mvI (invO os n)) e1
    rw [o.back (by omega) (by omega), o.back (by omega) (by omega)] at e2
    omega
theorem IsOrd.mapP {os qs : List Int} {n : Nat} {z : Str} (ds : List (Int × Str)) (h : ∀ e ∈ ds, GoodP z n e) : (ds.map (mvP os)).map (mvP qs) = ds.map (mvP (compO os qs n)) := by
  rw [List.map_map]
  exact List.map_congr_left fun x mx => Prod.ext (compO_at (h x mx).1 (h x mx).2.1).symm rfl
theorem IsOrd.mapA {os qs : List Int} {n : Nat} {r z : Str} (ds : List EnS.Arc) (h : ∀ e ∈ ds, GoodA r z n e) : (ds.map (mvA os)).map (mvA qs) = ds.map (mvA (compO os qs n)) := by
  rw [List.map_map]
  refine List.map_congr_left fun x mx => ?_
  have := h x mx
  exact Prod.ext (compO_at this.1 this.2.1).symm (Prod.ext rfl (Prod.ext rfl (compO_at this.2.2.2.2.2.2.1 this.2.2.2.2.2.2.2).symm))
end Lb

namespace Lb
open PySem PySem.Spec PyProof.Rows L2
def topS (i : Nat) : Stmt := PySem.Challenge.pw_lagbound_k21_renumber_a_machine.main.body.getD i (.Pass ⟨0, 0, 0, 0⟩)
abbrev s_is_whole : Stmt := topS 1
theorem sc_is_whole : FnScope ["value"] ["value"] (defScope s_is_whole) := ⟨rfl, rfl, rfl, by decide +kernel, rfl, by decide +kernel, by decide +kernel⟩
abbrev s_in_range : Stmt := topS 2
theorem sc_in_range : FnScope ["value", "low", "high"] ["value", "low", "high"] (defScope s_in_range) := ⟨rfl, rfl, rfl, by decide +kernel, rfl, by decide +kernel, by decide +kernel⟩
abbrev s_check_number : Stmt := topS 16
theorem sc_check_number : FnScope ["value", "low", "high"] ["value", "low", "high"] (defScope s_check_number) := ⟨rfl, rfl, rfl, by decide +kernel, rfl, by decide +kernel, by decide +kernel⟩
abbrev s_is_letters : Stmt := topS 19
theorem sc_is_letters : FnScope ["value"] ["value"] (defScope s_is_letters) := ⟨rfl, rfl, rfl, by decide +kernel, rfl, by decide +kernel, by decide +kernel⟩
abbrev s_is_letter : Stmt := topS 20
theorem sc_is_letter : FnScope ["letters", "value"] ["letters", "value"] (defScope s_is_letter) := ⟨rfl, rfl, rfl, by decide +kernel, rfl, by decide +kernel, by decide +kernel⟩
abbrev s_is_word : Stmt := topS 21
theorem sc_is_word : FnScope ["letters", "value"] ["letters", "value"] (defScope s_is_word) := ⟨rfl, rfl, rfl, by decide +kernel, rfl, by decide +kernel, by decide +kernel⟩
abbrev s_is_word_up_to : Stmt := topS 22
theorem sc_is_word_up_to : FnScope ["letters", "value", "most"] ["letters", "value", "most"] (defScope s_is_word_up_to) := ⟨rfl, rfl, rfl, by decide +kernel, rfl, by decide +kernel, by decide +kernel⟩
abbrev s_check_letters : Stmt := topS 23
theorem sc_check_letters : FnScope ["letters"] ["letters"] (defScope s_check_letters) := ⟨rfl, rfl, rfl, by decide +kernel, rfl, by decide +kernel, by decide +kernel⟩
abbrev s_word_key : Stmt := topS 24
theorem sc_word_key : FnScope ["word"] ["word"] (defScope s_word_key) := ⟨rfl, rfl, rfl, by decide +kernel, rfl, by decide +kernel, by decide +kernel⟩
abbrev s_show_word : Stmt := topS 25
theorem sc_show_word : FnScope ["word"] ["word"] (defScope s_show_word) := ⟨rfl, rfl, rfl, by decide +kernel, rfl, by decide +kernel, by decide +kernel⟩
abbrev s_is_pair : Stmt := topS 28
theorem sc_is_pair : FnScope ["value", "write", "size", "state", "word"] ["value", "write", "size"] (defScope s_is_pair) := ⟨rfl, rfl, rfl, by decide +kernel, rfl, by decide +kernel, by decide +kernel⟩
abbrev s_is_arc : Stmt := topS 29
theorem sc_is_arc : FnScope ["value", "read", "write", "size", "source", "letter", "word", "target"] ["value", "read", "write", "size"] (defScope s_is_arc) := ⟨rfl, rfl, rfl, by decide +kernel, rfl, by decide +kernel, by decide +kernel⟩
abbrev s_pair_key : Stmt := topS 30
theorem sc_pair_key : FnScope ["pair", "state", "word"] ["pair"] (defScope s_pair_key) := ⟨rfl, rfl, rfl, by decide +kernel, rfl, by decide +kernel, by decide +kernel⟩
abbrev s_arc_key : Stmt := topS 31
theorem sc_arc_key : FnScope ["arc", "source", "letter", "word", "target"] ["arc"] (defScope s_arc_key) := ⟨rfl, rfl, rfl, by decide +kernel, rfl, by decide +kernel, by decide +kernel⟩
abbrev s_check_many : Stmt := topS 32
theorem sc_check_many : FnScope ["place", "entries"] ["place", "entries"] (defScope s_check_many) := ⟨rfl, rfl, rfl, by decide +kernel, rfl, by decide +kernel, by decide +kernel⟩
abbrev s_checked_pairs : Stmt := topS 33
theorem sc_checked_pairs : FnScope ["place", "entries", "write", "size", "index", "entry"] ["place", "entries", "write", "size"] (defScope s_checked_pairs) := ⟨rfl, rfl, rfl, by decide +kernel, rfl, by decide +kernel, by decide +kernel⟩
abbrev s_checked_arcs : Stmt := topS 34
theorem sc_checked_arcs : FnScope ["entries", "read", "write", "size", "index", "entry"] ["entries", "read", "write", "size"] (defScope s_checked_arcs) := ⟨rfl, rfl, rfl, by decide +kernel, rfl, by decide +kernel, by decide +kernel⟩
abbrev s_renumber : Stmt := topS 36
theorem sc_renumber : FnScope ["machine", "order", "known", "index", "state"] ["machine", "order"] (defScope s_renumber) := ⟨rfl, rfl, rfl, by decide +kernel, rfl, by decide +kernel, by decide +kernel⟩
abbrev s_moved_machine : Stmt := topS 37
theorem sc_moved_machine : FnScope ["machine", "size", "numbers", "begins", "arcs", "ends"] ["machine", "size", "numbers"] (defScope s_moved_machine) := ⟨rfl, rfl, rfl, by decide +kernel, rfl, by decide +kernel, by decide +kernel⟩
abbrev s_moved_pairs : Stmt := topS 38
theorem sc_moved_pairs : FnScope ["pairs", "numbers", "state", "word"] ["pairs", "numbers"] (defScope s_moved_pairs) := ⟨rfl, rfl, rfl, by decide +kernel, rfl, by decide +kernel, by decide +kernel⟩
abbrev s_moved_arcs : Stmt := topS 39
theorem sc_moved_arcs : FnScope ["arcs", "numbers", "kept", "arc", "source", "letter", "word", "target"] ["arcs", "numbers"] (defScope s_moved_arcs) := ⟨rfl, rfl, rfl, by decide +kernel, rfl, by decide +kernel, by decide +kernel⟩
abbrev s_show_machine : Stmt := topS 41
theorem sc_show_machine : FnScope ["machine", "lines", "state", "word", "source", "letter", "target"] ["machine"] (defScope s_show_machine) := ⟨rfl, rfl, rfl, by decide +kernel, rfl, by decide +kernel, by decide +kernel⟩
abbrev s_mix : Stmt := topS 43
theorem sc_mix : FnScope ["number", "tick", "one", "two"] ["number", "tick"] (defScope s_mix) := ⟨rfl, rfl, rfl, by decide +kernel, rfl, by decide +kernel, by decide +kernel⟩
abbrev s_store : Stmt := topS 44
theorem sc_store : FnScope ["script", "seed", "cell"] ["script"] (defScope s_store) := ⟨rfl, rfl, rfl, by decide +kernel, rfl, by decide +kernel, by decide +kernel⟩
abbrev s_take : Stmt := topS 45
theorem sc_take : FnScope ["store", "many", "cells", "cell", "digit"] ["store", "many"] (defScope s_take) := ⟨rfl, rfl, rfl, by decide +kernel, rfl, by decide +kernel, by decide +kernel⟩
abbrev s_pick : Stmt := topS 46
theorem sc_pick : FnScope ["store", "row"] ["store", "row"] (defScope s_pick) := ⟨rfl, rfl, rfl, by decide +kernel, rfl, by decide +kernel, by decide +kernel⟩
abbrev s_between : Stmt := topS 47
theorem sc_between : FnScope ["store", "low", "high", "draw"] ["store", "low", "high"] (defScope s_between) := ⟨rfl, rfl, rfl, by decide +kernel, rfl, by decide +kernel, by decide +kernel⟩
abbrev s_order : Stmt := topS 48
theorem sc_order : FnScope ["store", "size", "left", "row", "k"] ["store", "size"] (defScope s_order) := ⟨rfl, rfl, rfl, by decide +kernel, rfl, by decide +kernel, by decide +kernel⟩
abbrev s_turned : Stmt := topS 49
theorem sc_turned : FnScope ["store", "row", "k"] ["store", "row"] (defScope s_turned) := ⟨rfl, rfl, rfl, by decide +kernel, rfl, by decide +kernel, by decide +kernel⟩
abbrev s_repeated : Stmt := topS 50
theorem sc_repeated : FnScope ["store", "row", "size", "more", "k"] ["store", "row", "size"] (defScope s_repeated) := ⟨rfl, rfl, rfl, by decide +kernel, rfl, by decide +kernel, by decide +kernel⟩
abbrev s_not_number : Stmt := topS 51
theorem sc_not_number : FnScope ["store", "low", "high", "draw"] ["store", "low", "high"] (defScope s_not_number) := ⟨rfl, rfl, rfl, by decide +kernel, rfl, by decide +kernel, by decide +kernel⟩
abbrev s_letters : Stmt := topS 52
theorem sc_letters : FnScope ["store", "limit", "size", "every", "draw", "at", "word", "k"] ["store", "limit"] (defScope s_letters) := ⟨rfl, rfl, rfl, by decide +kernel, rfl, by decide +kernel, by decide +kernel⟩
abbrev s_word : Stmt := topS 53
theorem sc_word : FnScope ["store", "letters", "limit", "draw", "size", "k"] ["store", "letters", "limit"] (defScope s_word) := ⟨rfl, rfl, rfl, by decide +kernel, rfl, by decide +kernel, by decide +kernel⟩
abbrev s_unlike_word : Stmt := topS 54
theorem sc_unlike_word : FnScope ["store", "letters", "word", "draw", "at", "x"] ["store", "letters", "word"] (defScope s_unlike_word) := ⟨rfl, rfl, rfl, by decide +kernel, rfl, by decide +kernel, by decide +kernel⟩
abbrev s_arc : Stmt := topS 55
theorem sc_arc : FnScope ["store", "read", "write", "size", "longest", "letter", "word"] ["store", "read", "write", "size", "longest"] (defScope s_arc) := ⟨rfl, rfl, rfl, by decide +kernel, rfl, by decide +kernel, by decide +kernel⟩
abbrev s_machine : Stmt := topS 56
theorem sc_machine : FnScope ["store", "read", "write", "limit", "size", "longest", "heads", "k", "links", "link", "stops", "draw", "rows", "row"] ["store", "read", "write", "limit"] (defScope s_machine) := ⟨rfl, rfl, rfl, by decide +kernel, rfl, by decide +kernel, by decide +kernel⟩
abbrev s_renamed : Stmt := topS 57
theorem sc_renamed : FnScope ["parts", "order", "heads", "links", "x"] ["parts", "order"] (defScope s_renamed) := ⟨rfl, rfl, rfl, by decide +kernel, rfl, by decide +kernel, by decide +kernel⟩
abbrev s_bad_order : Stmt := topS 58
theorem sc_bad_order : FnScope ["store", "size", "row", "draw", "at", "bad"] ["store", "size"] (defScope s_bad_order) := ⟨rfl, rfl, rfl, by decide +kernel, rfl, by decide +kernel, by decide +kernel⟩
abbrev s_shown : Stmt := topS 59
theorem sc_shown : FnScope ["word"] ["word"] (defScope s_shown) := ⟨rfl, rfl, rfl, by decide +kernel, rfl, by decide +kernel, by decide +kernel⟩
abbrev s_tidy : Stmt := topS 60
theorem sc_tidy : FnScope ["parts", "rows", "k", "row", "entry"] ["parts"] (defScope s_tidy) := ⟨rfl, rfl, rfl, by decide +kernel, rfl, by decide +kernel, by decide +kernel⟩
abbrev s_entry_key : Stmt := topS 61
theorem sc_entry_key : FnScope ["entry"] ["entry"] (defScope s_entry_key) := ⟨rfl, rfl, rfl, by decide +kernel, rfl, by decide +kernel, by decide +kernel⟩
abbrev s_machine_rows : Stmt := topS 62
theorem sc_machine_rows : FnScope ["parts", "same", "rows", "entry"] ["parts"] (defScope s_machine_rows) := ⟨rfl, rfl, rfl, by decide +kernel, rfl, by decide +kernel, by decide +kernel⟩
abbrev s_joined : Stmt := topS 63
theorem sc_joined : FnScope ["rows", "row"] ["rows"] (defScope s_joined) := ⟨rfl, rfl, rfl, by decide +kernel, rfl, by decide +kernel, by decide +kernel⟩
abbrev s_same : Stmt := topS 64
theorem sc_same : FnScope ["actual", "expected", "k"] ["actual", "expected"] (defScope s_same) := ⟨rfl, rfl, rfl, by decide +kernel, rfl, by decide +kernel, by decide +kernel⟩
abbrev s_copy : Stmt := topS 65
theorem sc_copy : FnScope ["value", "item"] ["value"] (defScope s_copy) := ⟨rfl, rfl, rfl, by decide +kernel, rfl, by decide +kernel, by decide +kernel⟩
abbrev s_machine_of : Stmt := topS 66
theorem sc_machine_of : FnScope ["parts"] ["parts"] (defScope s_machine_of) := ⟨rfl, rfl, rfl, by decide +kernel, rfl, by decide +kernel, by decide +kernel⟩
abbrev s_parts_of : Stmt := topS 67
theorem sc_parts_of : FnScope ["machine"] ["machine"] (defScope s_parts_of) := ⟨rfl, rfl, rfl, by decide +kernel, rfl, by decide +kernel, by decide +kernel⟩
abbrev s_error : Stmt := topS 68
theorem sc_error : FnScope ["action", "e"] ["action"] (defScope s_error) := ⟨rfl, rfl, rfl, by decide +kernel, rfl, by decide +kernel, by decide +kernel⟩
abbrev s_some_order : Stmt := topS 69
theorem sc_some_order : FnScope ["store", "size", "row", "draw", "at", "place", "old"] ["store", "size"] (defScope s_some_order) := ⟨rfl, rfl, rfl, by decide +kernel, rfl, by decide +kernel, by decide +kernel⟩
abbrev s_moves_all : Stmt := topS 70
theorem sc_moves_all : FnScope ["machine", "parts", "order", "given", "moved", "due", "back", "k"] ["machine", "parts", "order"] (defScope s_moves_all) := ⟨rfl, rfl, rfl, by decide +kernel, rfl, by decide +kernel, by decide +kernel⟩
abbrev s_refuses : Stmt := topS 71
theorem sc_refuses : FnScope ["store", "machine", "size", "pair", "bad"] ["store", "machine", "size"] (defScope s_refuses) := ⟨rfl, rfl, rfl, by decide +kernel, rfl, by decide +kernel, by decide +kernel⟩
abbrev s_law : Stmt := topS 72
theorem sc_law : FnScope ["script", "store", "read", "parts", "size", "machine", "orders", "order", "k", "both", "twice"] ["script"] (defScope s_law) := ⟨rfl, rfl, rfl, by decide +kernel, rfl, by decide +kernel, by decide +kernel⟩
abbrev si_BadLetters : Stmt := inCls (topS 5) 0
theorem sci_BadLetters : FnScope ["self", "value"] ["self", "value"] (defScope si_BadLetters) := ⟨rfl, rfl, rfl, by decide +kernel, rfl, by decide +kernel, by decide +kernel⟩
abbrev si_BadWord : Stmt := inCls (topS 6) 0
theorem sci_BadWord : FnScope ["self", "value"] ["self", "value"] (defScope si_BadWord) := ⟨rfl, rfl, rfl, by decide +kernel, rfl, by decide +kernel, by decide +kernel⟩
abbrev si_BadNumber : Stmt := inCls (topS 7) 0
theorem sci_BadNumber : FnScope ["self", "value"] ["self", "value"] (defScope si_BadNumber) := ⟨rfl, rfl, rfl, by decide +kernel, rfl, by decide +kernel, by decide +kernel⟩
abbrev si_BadEntry : Stmt := inCls (topS 8) 0
theorem sci_BadEntry : FnScope ["self", "place", "index"] ["self", "place", "index"] (defScope si_BadEntry) := ⟨rfl, rfl, rfl, by decide +kernel, rfl, by decide +kernel, by decide +kernel⟩
abbrev si_TooLarge : Stmt := inCls (topS 10) 0
theorem sci_TooLarge : FnScope ["self", "what", "limit"] ["self", "what", "limit"] (defScope si_TooLarge) := ⟨rfl, rfl, rfl, by decide +kernel, rfl, by decide +kernel, by decide +kernel⟩
abbrev s_Machine___init__ : Stmt := inCls (topS 27) 0
theorem sc_Machine___init__ : FnScope ["self", "read", "write", "size", "begins", "arcs", "ends"] ["self", "read", "write", "size", "begins", "arcs", "ends"] (defScope s_Machine___init__) := ⟨rfl, rfl, rfl, by decide +kernel, rfl, by decide +kernel, by decide +kernel⟩
abbrev s_Machine_read : Stmt := inCls (topS 27) 1
theorem sc_Machine_read : FnScope ["self"] ["self"] (defScope s_Machine_read) := ⟨rfl, rfl, rfl, by decide +kernel, rfl, by decide +kernel, by decide +kernel⟩
abbrev s_Machine_write : Stmt := inCls (topS 27) 2
theorem sc_Machine_write : FnScope ["self"] ["self"] (defScope s_Machine_write) := ⟨rfl, rfl, rfl, by decide +kernel, rfl, by decide +kernel, by decide +kernel⟩
abbrev s_Machine_size : Stmt := inCls (topS 27) 3
theorem sc_Machine_size : FnScope ["self"] ["self"] (defScope s_Machine_size) := ⟨rfl, rfl, rfl, by decide +kernel, rfl, by decide +kernel, by decide +kernel⟩
abbrev s_Machine_begins : Stmt := inCls (topS 27) 4
theorem sc_Machine_begins : FnScope ["self"] ["self"] (defScope s_Machine_begins) := ⟨rfl, rfl, rfl, by decide +kernel, rfl, by decide +kernel, by decide +kernel⟩
abbrev s_Machine_arcs : Stmt := inCls (topS 27) 5
theorem sc_Machine_arcs : FnScope ["self"] ["self"] (defScope s_Machine_arcs) := ⟨rfl, rfl, rfl, by decide +kernel, rfl, by decide +kernel, by decide +kernel⟩
abbrev s_Machine_ends : Stmt := inCls (topS 27) 6
theorem sc_Machine_ends : FnScope ["self"] ["self"] (defScope s_Machine_ends) := ⟨rfl, rfl, rfl, by decide +kernel, rfl, by decide +kernel, by decide +kernel⟩
abbrev s_Machine___len__ : Stmt := inCls (topS 27) 7
theorem sc_Machine___len__ : FnScope ["self"] ["self"] (defScope s_Machine___len__) := ⟨rfl, rfl, rfl, by decide +kernel, rfl, by decide +kernel, by decide +kernel⟩
abbrev s_Machine___iter__ : Stmt := inCls (topS 27) 8
theorem sc_Machine___iter__ : FnScope ["self"] ["self"] (defScope s_Machine___iter__) := ⟨rfl, rfl, rfl, by decide +kernel, rfl, by decide +kernel, by decide +kernel⟩
structure Txt [Tabl] (K : PySem.W.Frag) (mg : Str → Option Value) (base : Heap) where
  f_is_whole : Addr
  fd_is_whole : FuncData
  F_is_whole : Fun K "is_whole" "is_whole" s_is_whole f_is_whole fd_is_whole
  b_is_whole : Binds K fd_is_whole ["value"] []
  g_is_whole : mg "is_whole" = some (.ref f_is_whole)
  f_in_range : Addr
  fd_in_range : FuncData
  F_in_range : Fun K "in_range" "in_range" s_in_range f_in_range fd_in_range
  b_in_range : Binds K fd_in_range ["value", "low", "high"] []
  g_in_range : mg "in_range" = some (.ref f_in_range)
  f_check_number : Addr
  fd_check_number : FuncData
  F_check_number : Fun K "check_number" "check_number" s_check_number f_check_number fd_check_number
  b_check_number : Binds K fd_check_number ["value", "low", "high"] []
  g_check_number : mg "check_number" = some (.ref f_check_number)
  f_is_letters : Addr
  fd_is_letters : FuncData
  C_is_letters : Addr
  P_is_letters : Addr
  F_is_letters : FunC K "is_letters" "is_letters" s_is_letters f_is_letters fd_is_letters C_is_letters
  B_is_letters : LamX.TabB base mg C_is_letters P_is_letters
  m_is_letters : (P_is_letters, (Str.ofString "is_letters" ++ ".<locals>.") ++ "<genexpr>") ∈ Tabl.T
  b_is_letters : Binds K fd_is_letters ["value"] []
  g_is_letters : mg "is_letters" = some (.ref f_is_letters)
  f_is_letter : Addr
  fd_is_letter : FuncData
  F_is_letter : Fun K "is_letter" "is_letter" s_is_letter f_is_letter fd_is_letter
  b_is_letter : Binds K fd_is_letter ["letters", "value"] []
  g_is_letter : mg "is_letter" = some (.ref f_is_letter)
  f_is_word : Addr
  fd_is_word : FuncData
  C_is_word : Addr
  P_is_word : Addr
  F_is_word : FunC K "is_word" "is_word" s_is_word f_is_word fd_is_word C_is_word
  B_is_word : LamX.TabB base mg C_is_word P_is_word
  m_is_word : (P_is_word, (Str.ofString "is_word" ++ ".<locals>.") ++ "<genexpr>") ∈ Tabl.T
  b_is_word : Binds K fd_is_word ["letters", "value"] []
  g_is_word : mg "is_word" = some (.ref f_is_word)
  f_is_word_up_to : Addr
  fd_is_word_up_to : FuncData
  F_is_word_up_to : Fun K "is_word_up_to" "is_word_up_to" s_is_word_up_to f_is_word_up_to fd_is_word_up_to
  b_is_word_up_to : Binds K fd_is_word_up_to ["letters", "value", "most"] []
  g_is_word_up_to : mg "is_word_up_to" = some (.ref f_is_word_up_to)
  f_check_letters : Addr
  fd_check_letters : FuncData
  F_check_letters : Fun K "check_letters" "check_letters" s_check_letters f_check_letters fd_check_letters
  b_check_letters : Binds K fd_check_letters ["letters"] []
  g_check_letters : mg "check_letters" = some (.ref f_check_letters)
  f_word_key : Addr
  fd_word_key : FuncData
  F_word_key : Fun K "word_key" "word_key" s_word_key f_word_key fd_word_key
  b_word_key : Binds K fd_word_key ["word"] []
  g_word_key : mg "word_key" = some (.ref f_word_key)
  f_show_word : Addr
  fd_show_word : FuncData
  F_show_word : Fun K "show_word" "show_word" s_show_word f_show_word fd_show_word
  b_show_word : Binds K fd_show_word ["word"] []
  g_show_word : mg "show_word" = some (.ref f_show_word)
  f_is_pair : Addr
  fd_is_pair : FuncData
  F_is_pair : Fun K "is_pair" "is_pair" s_is_pair f_is_pair fd_is_pair
  b_is_pair : Binds K fd_is_pair ["value", "write", "size"] []
  g_is_pair : mg "is_pair" = some (.ref f_is_pair)
  f_is_arc : Addr
  fd_is_arc : FuncData
  F_is_arc : Fun K "is_arc" "is_arc" s_is_arc f_is_arc fd_is_arc
  b_is_arc : Binds K fd_is_arc ["value", "read", "write", "size"] []
  g_is_arc : mg "is_arc" = some (.ref f_is_arc)
  f_pair_key : Addr
  fd_pair_key : FuncData
  F_pair_key : Fun K "pair_key" "pair_key" s_pair_key f_pair_key fd_pair_key
  b_pair_key : Binds K fd_pair_key ["pair"] []
  g_pair_key : mg "pair_key" = some (.ref f_pair_key)
  f_arc_key : Addr
  fd_arc_key : FuncData
  F_arc_key : Fun K "arc_key" "arc_key" s_arc_key f_arc_key fd_arc_key
  b_arc_key : Binds K fd_arc_key ["arc"] []
  g_arc_key : mg "arc_key" = some (.ref f_arc_key)
  f_check_many : Addr
  fd_check_many : FuncData
  F_check_many : Fun K "check_many" "check_many" s_check_many f_check_many fd_check_many
  b_check_many : Binds K fd_check_many ["place", "entries"] []
  g_check_many : mg "check_many" = some (.ref f_check_many)
  f_checked_pairs : Addr
  fd_checked_pairs : FuncData
  F_checked_pairs : Fun K "checked_pairs" "checked_pairs" s_checked_pairs f_checked_pairs fd_checked_pairs
  b_checked_pairs : Binds K fd_checked_pairs ["place", "entries", "write", "size"] []
  g_checked_pairs : mg "checked_pairs" = some (.ref f_checked_pairs)
  f_checked_arcs : Addr
  fd_checked_arcs : FuncData
  F_checked_arcs : Fun K "checked_arcs" "checked_arcs" s_checked_arcs f_checked_arcs fd_checked_arcs
  b_checked_arcs : Binds K fd_checked_arcs ["entries", "read", "write", "size"] []
  g_checked_arcs : mg "checked_arcs" = some (.ref f_checked_arcs)
  f_renumber : Addr
  fd_renumber : FuncData
  F_renumber : Fun K "renumber" "renumber" s_renumber f_renumber fd_renumber
  b_renumber : Binds K fd_renumber ["machine", "order"] []
  g_renumber : mg "renumber" = some (.ref f_renumber)
  f_moved_machine : Addr
  fd_moved_machine : FuncData
  F_moved_machine : Fun K "moved_machine" "moved_machine" s_moved_machine f_moved_machine fd_moved_machine
  b_moved_machine : Binds K fd_moved_machine ["machine", "size", "numbers"] []
  g_moved_machine : mg "moved_machine" = some (.ref f_moved_machine)
  f_moved_pairs : Addr
  fd_moved_pairs : FuncData
  F_moved_pairs : Fun K "moved_pairs" "moved_pairs" s_moved_pairs f_moved_pairs fd_moved_pairs
  b_moved_pairs : Binds K fd_moved_pairs ["pairs", "numbers"] []
  g_moved_pairs : mg "moved_pairs" = some (.ref f_moved_pairs)
  f_moved_arcs : Addr
  fd_moved_arcs : FuncData
  F_moved_arcs : Fun K "moved_arcs" "moved_arcs" s_moved_arcs f_moved_arcs fd_moved_arcs
  b_moved_arcs : Binds K fd_moved_arcs ["arcs", "numbers"] []
  g_moved_arcs : mg "moved_arcs" = some (.ref f_moved_arcs)
  f_show_machine : Addr
  fd_show_machine : FuncData
  F_show_machine : Fun K "show_machine" "show_machine" s_show_machine f_show_machine fd_show_machine
  b_show_machine : Binds K fd_show_machine ["machine"] []
  g_show_machine : mg "show_machine" = some (.ref f_show_machine)
  f_mix : Addr
  fd_mix : FuncData
  F_mix : Fun K "_law_mix" "_law_mix" s_mix f_mix fd_mix
  b_mix : Binds K fd_mix ["number", "tick"] []
  g_mix : mg "_law_mix" = some (.ref f_mix)
  f_store : Addr
  fd_store : FuncData
  F_store : Fun K "_law_store" "_law_store" s_store f_store fd_store
  b_store : Binds K fd_store ["script"] []
  g_store : mg "_law_store" = some (.ref f_store)
  f_take : Addr
  fd_take : FuncData
  F_take : Fun K "_law_take" "_law_take" s_take f_take fd_take
  b_take : Binds K fd_take ["store", "many"] []
  g_take : mg "_law_take" = some (.ref f_take)
  f_pick : Addr
  fd_pick : FuncData
  F_pick : Fun K "_law_pick" "_law_pick" s_pick f_pick fd_pick
  b_pick : Binds K fd_pick ["store", "row"] []
  g_pick : mg "_law_pick" = some (.ref f_pick)
  f_between : Addr
  fd_between : FuncData
  F_between : Fun K "_law_between" "_law_between" s_between f_between fd_between
  b_between : Binds K fd_between ["store", "low", "high"] []
  g_between : mg "_law_between" = some (.ref f_between)
  f_order : Addr
  fd_order : FuncData
  F_order : Fun K "_law_order" "_law_order" s_order f_order fd_order
  b_order : Binds K fd_order ["store", "size"] []
  g_order : mg "_law_order" = some (.ref f_order)
  f_turned : Addr
  fd_turned : FuncData
  F_turned : Fun K "_law_turned" "_law_turned" s_turned f_turned fd_turned
  b_turned : Binds K fd_turned ["store", "row"] []
  g_turned : mg "_law_turned" = some (.ref f_turned)
  f_repeated : Addr
  fd_repeated : FuncData
  F_repeated : Fun K "_law_repeated" "_law_repeated" s_repeated f_repeated fd_repeated
  b_repeated : Binds K fd_repeated ["store", "row", "size"] []
  g_repeated : mg "_law_repeated" = some (.ref f_repeated)
  f_not_number : Addr
  fd_not_number : FuncData
  F_not_number : Fun K "_law_not_number" "_law_not_number" s_not_number f_not_number fd_not_number
  b_not_number : Binds K fd_not_number ["store", "low", "high"] []
  g_not_number : mg "_law_not_number" = some (.ref f_not_number)
  f_letters : Addr
  fd_letters : FuncData
  F_letters : Fun K "_law_letters" "_law_letters" s_letters f_letters fd_letters
  b_letters : Binds K fd_letters ["store", "limit"] []
  g_letters : mg "_law_letters" = some (.ref f_letters)
  f_word : Addr
  fd_word : FuncData
  F_word : Fun K "_law_word" "_law_word" s_word f_word fd_word
  b_word : Binds K fd_word ["store", "letters", "limit"] []
  g_word : mg "_law_word" = some (.ref f_word)
  f_unlike_word : Addr
  fd_unlike_word : FuncData
  F_unlike_word : Fun K "_law_unlike_word" "_law_unlike_word" s_unlike_word f_unlike_word fd_unlike_word
  b_unlike_word : Binds K fd_unlike_word ["store", "letters", "word"] []
  g_unlike_word : mg "_law_unlike_word" = some (.ref f_unlike_word)
  f_arc : Addr
  fd_arc : FuncData
  F_arc : Fun K "_law_arc" "_law_arc" s_arc f_arc fd_arc
  b_arc : Binds K fd_arc ["store", "read", "write", "size", "longest"] []
  g_arc : mg "_law_arc" = some (.ref f_arc)
  f_machine : Addr
  fd_machine : FuncData
  F_machine : Fun K "_law_machine" "_law_machine" s_machine f_machine fd_machine
  b_machine : Binds K fd_machine ["store", "read", "write", "limit"] []
  g_machine : mg "_law_machine" = some (.ref f_machine)
  f_renamed : Addr
  fd_renamed : FuncData
  F_renamed : Fun K "_law_renamed" "_law_renamed" s_renamed f_renamed fd_renamed
  b_renamed : Binds K fd_renamed ["parts", "order"] []
  g_renamed : mg "_law_renamed" = some (.ref f_renamed)
  f_bad_order : Addr
  fd_bad_order : FuncData
  F_bad_order : Fun K "_law_bad_order" "_law_bad_order" s_bad_order f_bad_order fd_bad_order
  b_bad_order : Binds K fd_bad_order ["store", "size"] []
  g_bad_order : mg "_law_bad_order" = some (.ref f_bad_order)
  f_shown : Addr
  fd_shown : FuncData
  F_shown : Fun K "_law_shown" "_law_shown" s_shown f_shown fd_shown
  b_shown : Binds K fd_shown ["word"] []
  g_shown : mg "_law_shown" = some (.ref f_shown)
  f_tidy : Addr
  fd_tidy : FuncData
  F_tidy : Fun K "_law_tidy" "_law_tidy" s_tidy f_tidy fd_tidy
  b_tidy : Binds K fd_tidy ["parts"] []
  g_tidy : mg "_law_tidy" = some (.ref f_tidy)
  f_entry_key : Addr
  fd_entry_key : FuncData
  F_entry_key : Fun K "_law_entry_key" "_law_entry_key" s_entry_key f_entry_key fd_entry_key
  b_entry_key : Binds K fd_entry_key ["entry"] []
  g_entry_key : mg "_law_entry_key" = some (.ref f_entry_key)
  f_machine_rows : Addr
  fd_machine_rows : FuncData
  F_machine_rows : Fun K "_law_machine_rows" "_law_machine_rows" s_machine_rows f_machine_rows fd_machine_rows
  b_machine_rows : Binds K fd_machine_rows ["parts"] []
  g_machine_rows : mg "_law_machine_rows" = some (.ref f_machine_rows)
  f_joined : Addr
  fd_joined : FuncData
  F_joined : Fun K "_law_joined" "_law_joined" s_joined f_joined fd_joined
  b_joined : Binds K fd_joined ["rows"] []
  g_joined : mg "_law_joined" = some (.ref f_joined)
  f_same : Addr
  fd_same : FuncData
  F_same : Fun K "_law_same" "_law_same" s_same f_same fd_same
  b_same : Binds K fd_same ["actual", "expected"] []
  g_same : mg "_law_same" = some (.ref f_same)
  f_copy : Addr
  fd_copy : FuncData
  F_copy : Fun K "_law_copy" "_law_copy" s_copy f_copy fd_copy
  b_copy : Binds K fd_copy ["value"] []
  g_copy : mg "_law_copy" = some (.ref f_copy)
  f_machine_of : Addr
  fd_machine_of : FuncData
  F_machine_of : Fun K "_law_machine_of" "_law_machine_of" s_machine_of f_machine_of fd_machine_of
  b_machine_of : Binds K fd_machine_of ["parts"] []
  g_machine_of : mg "_law_machine_of" = some (.ref f_machine_of)
  f_parts_of : Addr
  fd_parts_of : FuncData
  F_parts_of : Fun K "_law_parts_of" "_law_parts_of" s_parts_of f_parts_of fd_parts_of
  b_parts_of : Binds K fd_parts_of ["machine"] []
  g_parts_of : mg "_law_parts_of" = some (.ref f_parts_of)
  f_error : Addr
  fd_error : FuncData
  F_error : Fun K "_law_error" "_law_error" s_error f_error fd_error
  b_error : Binds K fd_error ["action"] []
  g_error : mg "_law_error" = some (.ref f_error)
  f_some_order : Addr
  fd_some_order : FuncData
  F_some_order : Fun K "_law_some_order" "_law_some_order" s_some_order f_some_order fd_some_order
  b_some_order : Binds K fd_some_order ["store", "size"] []
  g_some_order : mg "_law_some_order" = some (.ref f_some_order)
  f_moves_all : Addr
  fd_moves_all : FuncData
  F_moves_all : Fun K "_law_moves_all" "_law_moves_all" s_moves_all f_moves_all fd_moves_all
  b_moves_all : Binds K fd_moves_all ["machine", "parts", "order"] []
  g_moves_all : mg "_law_moves_all" = some (.ref f_moves_all)
  f_refuses : Addr
  fd_refuses : FuncData
  C_refuses : Addr
  P_refuses : Addr
  F_refuses : FunC K "_law_refuses" "_law_refuses" s_refuses f_refuses fd_refuses C_refuses
  B_refuses : LamX.TabB base mg C_refuses P_refuses
  m_refuses : (P_refuses, (Str.ofString "_law_refuses" ++ ".<locals>.") ++ "<lambda>") ∈ Tabl.T
  b_refuses : Binds K fd_refuses ["store", "machine", "size"] []
  g_refuses : mg "_law_refuses" = some (.ref f_refuses)
  f_law : Addr
  fd_law : FuncData
  F_law : Fun K "law" "law" s_law f_law fd_law
  b_law : Binds K fd_law ["script"] []
  g_law : mg "law" = some (.ref f_law)
  C_LagError : Addr
  E_LagError : ErrT K mg "LagError" C_LagError
  C_BadLetters : Addr
  E_BadLetters : ErrT K mg "BadLetters" C_BadLetters
  I_BadLetters : Addr
  fdI_BadLetters : FuncData
  FI_BadLetters : Fun K "__init__" "BadLetters.__init__" si_BadLetters I_BadLetters fdI_BadLetters
  bI_BadLetters : Binds K fdI_BadLetters ["self", "value"] []
  iI_BadLetters : PySem.W.findIn K (.ref C_BadLetters) "__init__" = some (some (.ref I_BadLetters))
  tI_BadLetters : PySem.W.typeIn K (.ref I_BadLetters) = some (.type "function")
  no_BadLetters_value : PySem.W.findIn K (.ref C_BadLetters) "value" = some none
  C_BadWord : Addr
  E_BadWord : ErrT K mg "BadWord" C_BadWord
  I_BadWord : Addr
  fdI_BadWord : FuncData
  FI_BadWord : Fun K "__init__" "BadWord.__init__" si_BadWord I_BadWord fdI_BadWord
  bI_BadWord : Binds K fdI_BadWord ["self", "value"] []
  iI_BadWord : PySem.W.findIn K (.ref C_BadWord) "__init__" = some (some (.ref I_BadWord))
  tI_BadWord : PySem.W.typeIn K (.ref I_BadWord) = some (.type "function")
  no_BadWord_value : PySem.W.findIn K (.ref C_BadWord) "value" = some none
  C_BadNumber : Addr
  E_BadNumber : ErrT K mg "BadNumber" C_BadNumber
  I_BadNumber : Addr
  fdI_BadNumber : FuncData
  FI_BadNumber : Fun K "__init__" "BadNumber.__init__" si_BadNumber I_BadNumber fdI_BadNumber
  bI_BadNumber : Binds K fdI_BadNumber ["self", "value"] []
  iI_BadNumber : PySem.W.findIn K (.ref C_BadNumber) "__init__" = some (some (.ref I_BadNumber))
  tI_BadNumber : PySem.W.typeIn K (.ref I_BadNumber) = some (.type "function")
  no_BadNumber_value : PySem.W.findIn K (.ref C_BadNumber) "value" = some none
  C_BadEntry : Addr
  E_BadEntry : ErrT K mg "BadEntry" C_BadEntry
  I_BadEntry : Addr
  fdI_BadEntry : FuncData
  FI_BadEntry : Fun K "__init__" "BadEntry.__init__" si_BadEntry I_BadEntry fdI_BadEntry
  bI_BadEntry : Binds K fdI_BadEntry ["self", "place", "index"] []
  iI_BadEntry : PySem.W.findIn K (.ref C_BadEntry) "__init__" = some (some (.ref I_BadEntry))
  tI_BadEntry : PySem.W.typeIn K (.ref I_BadEntry) = some (.type "function")
  no_BadEntry_place : PySem.W.findIn K (.ref C_BadEntry) "place" = some none
  no_BadEntry_index : PySem.W.findIn K (.ref C_BadEntry) "index" = some none
  C_Mismatch : Addr
  E_Mismatch : ErrT K mg "Mismatch" C_Mismatch
  C_TooLarge : Addr
  E_TooLarge : ErrT K mg "TooLarge" C_TooLarge
  I_TooLarge : Addr
  fdI_TooLarge : FuncData
  FI_TooLarge : Fun K "__init__" "TooLarge.__init__" si_TooLarge I_TooLarge fdI_TooLarge
  bI_TooLarge : Binds K fdI_TooLarge ["self", "what", "limit"] []
  iI_TooLarge : PySem.W.findIn K (.ref C_TooLarge) "__init__" = some (some (.ref I_TooLarge))
  tI_TooLarge : PySem.W.typeIn K (.ref I_TooLarge) = some (.type "function")
  no_TooLarge_what : PySem.W.findIn K (.ref C_TooLarge) "what" = some none
  no_TooLarge_limit : PySem.W.findIn K (.ref C_TooLarge) "limit" = some none
  C_Machine : Addr
  cl_Machine : Cls K C_Machine
  mg_Machine : mg "Machine" = some (.ref C_Machine)
  no_Machine__read : NoAttr K C_Machine "_read"
  no_Machine__write : NoAttr K C_Machine "_write"
  no_Machine__size : NoAttr K C_Machine "_size"
  no_Machine__begins : NoAttr K C_Machine "_begins"
  no_Machine__arcs : NoAttr K C_Machine "_arcs"
  no_Machine__ends : NoAttr K C_Machine "_ends"
  f_Machine___init__ : Addr
  fd_Machine___init__ : FuncData
  F_Machine___init__ : Fun K "__init__" "Machine.__init__" s_Machine___init__ f_Machine___init__ fd_Machine___init__
  M_Machine : Mk K C_Machine f_Machine___init__
  kt_Machine_begins : Addr
  ke_Machine_begins : Own.KT0 K kt_Machine_begins
  kt_Machine_arcs : Addr
  ke_Machine_arcs : Own.KT0 K kt_Machine_arcs
  kt_Machine_ends : Addr
  ke_Machine_ends : Own.KT0 K kt_Machine_ends
  ka_Machine_0 : List Value
  kb_Machine_0 : KBn K fd_Machine___init__ ["self", "read", "write", "size", "begins", "arcs", "ends"] 4 ["begins", "arcs", "ends"] (fun us ws => us ++ (((ws.drop 0).take 1) ++ (((ws.drop 1).take 1) ++ (((ws.drop 2).take 1))))) (fun us ws => us ++ (((ws.drop 0).take 1) ++ (((ws.drop 1).take 1) ++ (((ws.drop 2).take 1)))))
  f_Machine_read : Addr
  fd_Machine_read : FuncData
  F_Machine_read : Fun K "read" "Machine.read" s_Machine_read f_Machine_read fd_Machine_read
  b_Machine_read : Binds K fd_Machine_read ["self"] []
  pa_Machine_read : Addr
  p_Machine_read : PropOf K C_Machine "read" pa_Machine_read f_Machine_read
  f_Machine_write : Addr
  fd_Machine_write : FuncData
  F_Machine_write : Fun K "write" "Machine.write" s_Machine_write f_Machine_write fd_Machine_write
  b_Machine_write : Binds K fd_Machine_write ["self"] []
  pa_Machine_write : Addr
  p_Machine_write : PropOf K C_Machine "write" pa_Machine_write f_Machine_write
  f_Machine_size : Addr
  fd_Machine_size : FuncData
  F_Machine_size : Fun K "size" "Machine.size" s_Machine_size f_Machine_size fd_Machine_size
  b_Machine_size : Binds K fd_Machine_size ["self"] []
  pa_Machine_size : Addr
  p_Machine_size : PropOf K C_Machine "size" pa_Machine_size f_Machine_size
  f_Machine_begins : Addr
  fd_Machine_begins : FuncData
  F_Machine_begins : Fun K "begins" "Machine.begins" s_Machine_begins f_Machine_begins fd_Machine_begins
  b_Machine_begins : Binds K fd_Machine_begins ["self"] []
  pa_Machine_begins : Addr
  p_Machine_begins : PropOf K C_Machine "begins" pa_Machine_begins f_Machine_begins
  f_Machine_arcs : Addr
  fd_Machine_arcs : FuncData
  F_Machine_arcs : Fun K "arcs" "Machine.arcs" s_Machine_arcs f_Machine_arcs fd_Machine_arcs
  b_Machine_arcs : Binds K fd_Machine_arcs ["self"] []
  pa_Machine_arcs : Addr
  p_Machine_arcs : PropOf K C_Machine "arcs" pa_Machine_arcs f_Machine_arcs
  f_Machine_ends : Addr
  fd_Machine_ends : FuncData
  F_Machine_ends : Fun K "ends" "Machine.ends" s_Machine_ends f_Machine_ends fd_Machine_ends
  b_Machine_ends : Binds K fd_Machine_ends ["self"] []
  pa_Machine_ends : Addr
  p_Machine_ends : PropOf K C_Machine "ends" pa_Machine_ends f_Machine_ends
  f_Machine___len__ : Addr
  fd_Machine___len__ : FuncData
  F_Machine___len__ : Fun K "__len__" "Machine.__len__" s_Machine___len__ f_Machine___len__ fd_Machine___len__
  b_Machine___len__ : Binds K fd_Machine___len__ ["self"] []
  h_Machine___len__ : PySem.W.findIn K (.ref C_Machine) "__len__" = some (some (.ref f_Machine___len__))
  i_Machine___len__ : PySem.W.isFn K (.ref f_Machine___len__) = true
  f_Machine___iter__ : Addr
  fd_Machine___iter__ : FuncData
  F_Machine___iter__ : Fun K "__iter__" "Machine.__iter__" s_Machine___iter__ f_Machine___iter__ fd_Machine___iter__
  b_Machine___iter__ : Binds K fd_Machine___iter__ ["self"] []
  h_Machine___iter__ : PySem.W.findIn K (.ref C_Machine) "__iter__" = some (some (.ref f_Machine___iter__))
  i_Machine___iter__ : PySem.W.isFn K (.ref f_Machine___iter__) = true
  k_BadNumber_BadEntry : PySem.W.kitOne K (.ref C_BadNumber) (.ref C_BadEntry) = some false
  k_BadNumber_BadLetters : PySem.W.kitOne K (.ref C_BadNumber) (.ref C_BadLetters) = some false
  k_BadNumber_BadNumber : PySem.W.kitOne K (.ref C_BadNumber) (.ref C_BadNumber) = some true
  k_BadNumber_BadWord : PySem.W.kitOne K (.ref C_BadNumber) (.ref C_BadWord) = some false
  k_BadNumber_Mismatch : PySem.W.kitOne K (.ref C_BadNumber) (.ref C_Mismatch) = some false
  k_BadNumber_TooLarge : PySem.W.kitOne K (.ref C_BadNumber) (.ref C_TooLarge) = some false
  k_BadNumber_ValueError : PySem.W.kitOne K (.ref C_BadNumber) (.type "ValueError") = some true
  x_BadNumber_LagError : PySem.W.exmOne K (.ref C_BadNumber) (.ref C_LagError) = some true
  k_BadLetters_BadEntry : PySem.W.kitOne K (.ref C_BadLetters) (.ref C_BadEntry) = some false
  k_BadLetters_BadLetters : PySem.W.kitOne K (.ref C_BadLetters) (.ref C_BadLetters) = some true
  k_BadLetters_BadNumber : PySem.W.kitOne K (.ref C_BadLetters) (.ref C_BadNumber) = some false
  k_BadLetters_BadWord : PySem.W.kitOne K (.ref C_BadLetters) (.ref C_BadWord) = some false
  k_BadLetters_Mismatch : PySem.W.kitOne K (.ref C_BadLetters) (.ref C_Mismatch) = some false
  k_BadLetters_TooLarge : PySem.W.kitOne K (.ref C_BadLetters) (.ref C_TooLarge) = some false
  k_BadLetters_ValueError : PySem.W.kitOne K (.ref C_BadLetters) (.type "ValueError") = some true
  x_BadLetters_LagError : PySem.W.exmOne K (.ref C_BadLetters) (.ref C_LagError) = some true
  k_BadEntry_BadEntry : PySem.W.kitOne K (.ref C_BadEntry) (.ref C_BadEntry) = some true
  k_BadEntry_BadLetters : PySem.W.kitOne K (.ref C_BadEntry) (.ref C_BadLetters) = some false
  k_BadEntry_BadNumber : PySem.W.kitOne K (.ref C_BadEntry) (.ref C_BadNumber) = some false
  k_BadEntry_BadWord : PySem.W.kitOne K (.ref C_BadEntry) (.ref C_BadWord) = some false
  k_BadEntry_Mismatch : PySem.W.kitOne K (.ref C_BadEntry) (.ref C_Mismatch) = some false
  k_BadEntry_TooLarge : PySem.W.kitOne K (.ref C_BadEntry) (.ref C_TooLarge) = some false
  k_BadEntry_ValueError : PySem.W.kitOne K (.ref C_BadEntry) (.type "ValueError") = some true
  x_BadEntry_LagError : PySem.W.exmOne K (.ref C_BadEntry) (.ref C_LagError) = some true
  k_TooLarge_BadEntry : PySem.W.kitOne K (.ref C_TooLarge) (.ref C_BadEntry) = some false
  k_TooLarge_BadLetters : PySem.W.kitOne K (.ref C_TooLarge) (.ref C_BadLetters) = some false
  k_TooLarge_BadNumber : PySem.W.kitOne K (.ref C_TooLarge) (.ref C_BadNumber) = some false
  k_TooLarge_BadWord : PySem.W.kitOne K (.ref C_TooLarge) (.ref C_BadWord) = some false
  k_TooLarge_Mismatch : PySem.W.kitOne K (.ref C_TooLarge) (.ref C_Mismatch) = some false
  k_TooLarge_TooLarge : PySem.W.kitOne K (.ref C_TooLarge) (.ref C_TooLarge) = some true
  k_TooLarge_ValueError : PySem.W.kitOne K (.ref C_TooLarge) (.type "ValueError") = some true
  x_TooLarge_LagError : PySem.W.exmOne K (.ref C_TooLarge) (.ref C_LagError) = some true
  z_ValueError : mg "ValueError" = none
  z_all : mg "all" = none
  z_bool : mg "bool" = none
  z_dict : mg "dict" = none
  z_enumerate : mg "enumerate" = none
  z_int : mg "int" = none
  z_isinstance : mg "isinstance" = none
  z_iter : mg "iter" = none
  z_len : mg "len" = none
  z_list : mg "list" = none
  z_max : mg "max" = none
  z_min : mg "min" = none
  z_range : mg "range" = none
  z_set : mg "set" = none
  z_sorted : mg "sorted" = none
  z_str : mg "str" = none
  z_tuple : mg "tuple" = none
  t_MAX_LETTERS : Tok
  c_MAX_LETTERS : mg "MAX_LETTERS" = some (.int 4 t_MAX_LETTERS)
  t_MAX_WRITTEN : Tok
  c_MAX_WRITTEN : mg "MAX_WRITTEN" = some (.int 400 t_MAX_WRITTEN)
  t_MAX_STATES : Tok
  c_MAX_STATES : mg "MAX_STATES" = some (.int 64 t_MAX_STATES)
  t_MAX_ENTRIES : Tok
  c_MAX_ENTRIES : mg "MAX_ENTRIES" = some (.int 400 t_MAX_ENTRIES)
  t_SMALL_LETTERS : Tok
  c_SMALL_LETTERS : mg "SMALL_LETTERS" = some (.str "abcdefghijklmnopqrstuvwxyz" t_SMALL_LETTERS)
section
variable [Tabl] {P : Program} {w : World} {K : PySem.W.Frag} {mg : Str → Option Value} {base : Heap}
/-- any number that is not negative -/
def sp_mix (_ : PySem.W.Frag) : Sp := fun vs H Q _ => ∃ n t : Int, vs = [.int n, .int t] ∧ ∀ r : Int, 0 ≤ r → Q (.int r) H
theorem ok_mix (T : Txt K mg base) : FnOk P w K mg base CX0 (0 + 1) T.f_mix T.fd_mix ["number", "tick"] (sp_mix K) := by
  refine T.F_mix.ok sc_mix (fun vs H Q E h => ?_) (fun cdv A outer s H vs Q E hr h => ?_)
  · obtain ⟨n, t, rfl, _⟩ := h
    rfl
  · obtain ⟨n, t, rfl, q⟩ := h
    refine ⟨_, (pss_cons (ps_set (i := 2) sc_mix.nd rfl (.inl rfl) (pe_op op_mod (pe_callTy call_int1 (by rfl) T.z_int (by decide +kernel) (pa_cons (pe_op op_add (pe_op op_add (pe_op op_mul (pe_op op_mod (pe_callTy call_int1 (by rfl) T.z_int (by decide +kernel) (pa_cons (pv 0) pa_nil)) pe_int) pe_int) (pe_op op_mul (pv 1) pe_int)) pe_int) pa_nil)) pe_int))
      (pss_cons (ps_set (i := 3) sc_mix.nd rfl (.inl rfl) (pe_op op_mod (pe_callTy call_int1 (by rfl) T.z_int (by decide +kernel) (pa_cons (pe_op op_add (pe_op op_add (pe_op op_mul (pv 2) (pv 2)) (pe_op op_fdiv (pv 2) pe_int)) (pe_op op_mul (pv 1) pe_int)) pa_nil)) pe_int))
      (pss_one (ps_ret (pe_op op_mod (pe_callTy call_int1 (by rfl) T.z_int (by decide +kernel) (pa_cons (pe_op op_add (pe_op op_add (pe_op op_mul (pv 3) (pv 3)) (pe_op op_fdiv (pv 3) pe_int)) (pv 2)) pa_nil)) pe_int))))), ?_⟩
    have hm : (0 : Int) < 2147483647 := by decide
    have hk : (0 : Int) < 1000000007 := by decide
    have hj : (0 : Int) < 2147483629 := by decide
    have b1 : 0 ≤ (n % 2147483647 * 48271 + t * 69621 + 7919) % 2147483647 := Int.emod_nonneg _ (by decide)
    have b2 : (n % 2147483647 * 48271 + t * 69621 + 7919) % 2147483647 < 2147483647 := Int.emod_lt_of_pos _ hm
    have w1 : -(2 ^ 64 : Int) < (n % 2147483647 * 48271 + t * 69621 + 7919) % 2147483647 ∧ (n % 2147483647 * 48271 + t * 69621 + 7919) % 2147483647 < 2 ^ 64 := ⟨by omega, by omega⟩
    refine ⟨.int n, rfl, .inl ⟨_, rfl, _, _, rfl, rfl, hm, _, _, rfl, rfl, .inr ⟨by decide, by decide⟩, .int t, rfl, _, _, rfl, rfl, .inr ⟨by decide, by decide⟩, _, _, rfl, rfl, _, _, rfl, rfl, .inl ⟨_, rfl, _, _, rfl, rfl, hm, ?_⟩⟩⟩
    have x1 : ∃ one, one = (n % 2147483647 * 48271 + t * 69621 + 7919) % 2147483647 := ⟨_, rfl⟩
    obtain ⟨one, e1⟩ := x1
    rw [← e1] at w1
    have b3 : 0 ≤ (one * one + one / 127 + t * 3571) % 1000000007 := Int.emod_nonneg _ (by decide)
    have b4 : (one * one + one / 127 + t * 3571) % 1000000007 < 1000000007 := Int.emod_lt_of_pos _ hk
    have w2 : -(2 ^ 64 : Int) < (one * one + one / 127 + t * 3571) % 1000000007 ∧ (one * one + one / 127 + t * 3571) % 1000000007 < 2 ^ 64 := ⟨by omega, by omega⟩
    subst e1
    refine ⟨_, rfl, _, rfl, _, _, rfl, rfl, .inl w1, _, rfl, _, _, rfl, rfl, ⟨by decide, by decide⟩, _, _, rfl, rfl, .int t, rfl, _, _, rfl, rfl, .inr ⟨by decide, by decide⟩, _, _, rfl, rfl, .inl ⟨_, rfl, _, _, rfl, rfl, hk, ?_⟩⟩
    exact ⟨_, rfl, _, rfl, _, _, rfl, rfl, .inl w2, _, rfl, _, _, rfl, rfl, ⟨by decide, by decide⟩, _, _, rfl, rfl, _, rfl, _, _, rfl, rfl, .inl ⟨_, rfl, _, _, rfl, rfl, hj, q _ (Int.emod_nonneg _ (by decide))⟩⟩

/-- a number d from 0 on, below many, or 0; the store moves on, all else stands -/
def sp_take (_ : PySem.W.Frag) : Sp := fun vs H Q _ => ∃ (a ca : Addr) (many : Int), vs = [.ref a, .int many] ∧ Sto H a ca ∧ many < 1073741824 ∧
  ∀ (d : Int) (H' : Hp), 0 ≤ d → (d < many ∨ d = 0) → But a H H' → Sto H' a ca → Q (.int d) H'
theorem ok_take (T : Txt K mg base) : FnOk P w K mg base CX0 (1 + 1) T.f_take T.fd_take ["store", "many"] (sp_take K) := by
  refine T.F_take.ok sc_take (fun vs H Q E h => ?_) (fun cdv A outer s H vs Q E hr h => ?_)
  · obtain ⟨a, ca, m, rfl, _⟩ := h
    rfl
  · obtain ⟨a, ca, m, rfl, S, hm, q⟩ := h
    refine ⟨_, (pss_cons (ps_set (i := 1) sc_take.nd rfl (.inl rfl) (pe_callB (call_max2 rfl) (by rfl) T.z_max (by decide +kernel) (pa_cons pe_int (pa_cons (pv 1) pa_nil))))
      (pss_cons (ps_asg (pe_op op_add (pe_ix ix_list (pv 0) pe_int (fun _ _ => rfl)) pe_int) (pg_sub (pv 0) pe_int set_list))
      (pss_cons (ps_set (i := 2) sc_take.nd rfl (.inl rfl) (pe_ix ix_list (pv 0) pe_int (fun _ _ => rfl)))
      (pss_cons (ps_if (PW.pt (pw_and (pt_cmpR op_lt (pe_ix ix_list (pv 0) pe_int (fun _ _ => rfl)) pe_int (nomark _)) (pw_and1 (pt_cmpR op_lt (pe_ix ix_list (pv 0) pe_int (fun _ _ => rfl)) (pe_callB call_len_seq (by rfl) T.z_len PySem.boot_len (pa_cons (pv 2) pa_nil)) (nomark _))))) (pss_cons (ps_set (i := 3) sc_take.nd rfl (.inl rfl) (pe_callTy call_int1 (by rfl) T.z_int (by decide +kernel) (pa_cons (pe_ix ix_list (pv 2) (pe_ix ix_list (pv 0) pe_int (fun _ _ => rfl)) (fun _ _ => rfl)) pa_nil)))
      (pss_cons (ps_asg (pe_op op_add (pe_ix ix_list (pv 0) pe_int (fun _ _ => rfl)) pe_int) (pg_sub (pv 0) pe_int set_list))
      (pss_cons (ps_if (pt_cmpR op_lt (pv 3) (pe_op op_pow pe_int pe_int) (nomark _)) (pss_one (ps_ret (pe_op op_mod (pe_callTy call_int1 (by rfl) T.z_int (by decide +kernel) (pa_cons (pe_call (ok_mix T) (hr.mono (by first | decide | exact Nat.le_refl _)) (by rfl) T.g_mix T.F_mix.kp T.b_mix .nil pass0 (pa_cons (pv 3) (pa_cons (pe_ix ix_list (pv 0) pe_int (fun _ _ => rfl)) pa_nil))) pa_nil)) (pv 1)))) pss_nil)
      (pss_one (ps_asg (pe_callTy call_int1 (by rfl) T.z_int (by decide +kernel) (pa_cons (pv 3) pa_nil)) (pg_sub (pv 0) pe_int set_list)))))) pss_nil)
      (pss_cons (ps_if (pt_cmpR op_lt (pe_ix ix_list (pv 0) pe_int (fun _ _ => rfl)) pe_int (nomark _)) (pss_one (ps_ret (pe_op op_mod (pe_callTy call_int1 (by rfl) T.z_int (by decide +kernel) (pa_cons (pe_call (ok_mix T) (hr.mono (by first | decide | exact Nat.le_refl _)) (by rfl) T.g_mix T.F_mix.kp T.b_mix .nil pass0 (pa_cons (pe_ix ix_list (pv 0) pe_int (fun _ _ => rfl)) (pa_cons (pe_ix ix_list (pv 0) pe_int (fun _ _ => rfl)) pa_nil))) pa_nil)) (pv 1)))) pss_nil)
      (pss_cons (ps_set (i := 4) sc_take.nd rfl (.inl rfl) (pe_op op_mod (pe_callTy call_int1 (by rfl) T.z_int (by decide +kernel) (pa_cons (pe_ix ix_list (pv 0) pe_int (fun _ _ => rfl)) pa_nil)) (pv 1)))
      (pss_cons (ps_asg (pe_op op_fdiv (pe_callTy call_int1 (by rfl) T.z_int (by decide +kernel) (pa_cons (pe_ix ix_list (pv 0) pe_int (fun _ _ => rfl)) pa_nil)) (pv 1)) (pg_sub (pv 0) pe_int set_list))
      (pss_one (ps_ret (pv 4)))))))))), ?_⟩
    obtain ⟨ns, i, b, t, sd, h1, h2, h3, h4⟩ := S
    -- many = max(1, many)
    refine ⟨.int m, rfl, _, _, rfl, ?_⟩
    have hM : ∃ M : Int, (if m > 1 then m else 1) = M ∧ 1 ≤ M ∧ M < 1073741824 ∧ ∀ d, d < M → 0 ≤ d → (d < m ∨ d = 0) := by
      by_cases g : m > 1
      · exact ⟨m, by rw [if_pos g], by omega, hm, fun d z _ => .inl z⟩
      · exact ⟨1, by rw [if_neg g], by omega, by decide, fun d z1 z2 => .inr (by omega)⟩
    obtain ⟨M, eM, hM1, hM2, hMd⟩ := hM
    rw [eM]
    have hM0 : 0 < M := by omega
    -- store[3] = store[3] + 1
    refine ⟨.ref a, rfl, _, _, _, _, rfl, rfl, .inl (.inl h1), rfl, _, _, rfl, rfl, .ref a, rfl, a, _, 3, 3, rfl, rfl, h1, rfl, ?_⟩
    -- cells = store[0]
    have h1' : (upd H a (.lst [.ref ca, .int i, .int b, .int (t + 1), .int sd])) a = some (.lst [.ref ca, .int i, .int b, .int (t + 1), .int sd]) := upd_same
    have h2' : (upd H a (.lst [.ref ca, .int i, .int b, .int (t + 1), .int sd])) ca = some (.lst (ns.map V.int)) := by
      rw [upd_ne h4]
      exact h2
    have hB : But a H (upd H a (.lst [.ref ca, .int i, .int b, .int (t + 1), .int sd])) := But.put h1
    have tail : ∀ (Ht : Hp) (bt : Int) (it tt : Int), Ht a = some (.lst [.ref ca, .int it, .int bt, .int tt, .int sd]) → Ht ca = some (.lst (ns.map V.int)) → 0 ≤ it → But a H Ht →
      ∀ r : Int, ∀ (d : Int) (H' : Hp), d = r % M → (H' = Ht ∨ ∃ b' : Int, H' = upd Ht a (.lst [.ref ca, .int it, .int b', .int tt, .int sd])) → Q (.int d) H' := by
      intro Ht bt it tt e1 e2 e3 eB r d H' ed eH
      subst ed
      have d0 : 0 ≤ r % M := Int.emod_nonneg _ (by omega)
      have d1 : r % M < M := Int.emod_lt_of_pos _ hM0
      rcases eH with rfl | ⟨b', rfl⟩
      · exact q _ _ d0 (hMd _ d1 d0) eB ⟨ns, it, bt, tt, sd, e1, e2, e3, h4⟩
      · refine q _ _ d0 (hMd _ d1 d0) (eB.trans (But.put e1)) ⟨ns, it, b', tt, sd, upd_same, ?_, e3, h4⟩
        rw [upd_ne h4]
        exact e2
    -- the tests
    refine ⟨.ref a, rfl, _, _, _, _, rfl, rfl, .inl (.inl h1'), rfl, .ref a, rfl, _, _, _, _, rfl, rfl, .inl (.inl h1'), rfl, _, _, rfl, rfl, _, rfl, ite2 (fun g1 => ?_) (fun g1 => ?_)⟩
    · refine ⟨.ref a, rfl, _, _, _, _, rfl, rfl, .inl (.inl h1'), rfl, .ref ca, rfl, _, _, rfl, .inl (.inl (.inl h2')), _, _, rfl, rfl, _, rfl, ite2 (fun g2 => ?_) (fun g2 => ?_)⟩
      · obtain ⟨n, hn⟩ := ints_at h3 (of_decide_eq_true g2)
        -- cell = int(cells[store[1]])
        refine ⟨.ref ca, rfl, .ref a, rfl, _, _, _, _, rfl, rfl, .inl (.inl h1'), rfl, _, _, _, _, rfl, rfl, .inl (.inl h2'), hn, .inl ⟨_, rfl, ?_⟩⟩
        -- store[1] = store[1] + 1
        refine ⟨.ref a, rfl, _, _, _, _, rfl, rfl, .inl (.inl h1'), rfl, _, _, rfl, rfl, .ref a, rfl, a, _, 1, 1, rfl, rfl, h1', rfl, ?_⟩
        have k1 : (upd (upd H a (.lst [.ref ca, .int i, .int b, .int (t + 1), .int sd])) a (.lst [.ref ca, .int (i + 1), .int b, .int (t + 1), .int sd])) a = some (.lst [.ref ca, .int (i + 1), .int b, .int (t + 1), .int sd]) := upd_same
        have k2 : (upd (upd H a (.lst [.ref ca, .int i, .int b, .int (t + 1), .int sd])) a (.lst [.ref ca, .int (i + 1), .int b, .int (t + 1), .int sd])) ca = some (.lst (ns.map V.int)) := by
          rw [upd_ne h4]
          exact h2'
        have kB := hB.trans (But.put (a := a) (H := (upd H a (.lst [.ref ca, .int i, .int b, .int (t + 1), .int sd]))) (o := (.lst [.ref ca, .int (i + 1), .int b, .int (t + 1), .int sd])) h1')
        have k3 : 0 ≤ i + 1 := by omega
        -- if cell < 10 ** 18
        refine ⟨_, rfl, _, _, rfl, rfl, ⟨by decide, by decide, by decide⟩, _, _, rfl, rfl, _, rfl, ite2 (fun g3 => ?_) (fun g3 => ?_)⟩
        · exact ⟨_, rfl, .ref a, rfl, _, _, _, _, rfl, rfl, .inl (.inl k1), rfl, _, _, rfl, fun r hr0 => .inl ⟨_, rfl, _, rfl, _, _, rfl, rfl, hM0, tail _ _ _ _ k1 k2 k3 kB r _ _ rfl (.inl rfl)⟩⟩
        · -- store[2] = int(cell)
          refine ⟨_, rfl, .inl ⟨_, rfl, .ref a, rfl, a, _, 2, 2, rfl, rfl, k1, rfl, ?_⟩⟩
          have m1 : (upd (upd (upd H a (.lst [.ref ca, .int i, .int b, .int (t + 1), .int sd])) a (.lst [.ref ca, .int (i + 1), .int b, .int (t + 1), .int sd])) a (.lst [.ref ca, .int (i + 1), .int n, .int (t + 1), .int sd])) a = some (.lst [.ref ca, .int (i + 1), .int n, .int (t + 1), .int sd]) := upd_same
          have m2 : (upd (upd (upd H a (.lst [.ref ca, .int i, .int b, .int (t + 1), .int sd])) a (.lst [.ref ca, .int (i + 1), .int b, .int (t + 1), .int sd])) a (.lst [.ref ca, .int (i + 1), .int n, .int (t + 1), .int sd])) ca = some (.lst (ns.map V.int)) := by
            rw [upd_ne h4]
            exact k2
          have mB := kB.trans (But.put (a := a) (H := (upd (upd H a (.lst [.ref ca, .int i, .int b, .int (t + 1), .int sd])) a (.lst [.ref ca, .int (i + 1), .int b, .int (t + 1), .int sd]))) (o := (.lst [.ref ca, .int (i + 1), .int n, .int (t + 1), .int sd])) k1)
          refine ⟨.ref a, rfl, _, _, _, _, rfl, rfl, .inl (.inl m1), rfl, _, _, rfl, rfl, _, rfl, ite2 (fun g4 => ?_) (fun g4 => ?_)⟩
          · exact ⟨.ref a, rfl, _, _, _, _, rfl, rfl, .inl (.inl m1), rfl, .ref a, rfl, _, _, _, _, rfl, rfl, .inl (.inl m1), rfl, _, _, rfl, fun r hr0 => .inl ⟨_, rfl, _, rfl, _, _, rfl, rfl, hM0, tail _ _ _ _ m1 m2 k3 mB r _ _ rfl (.inl rfl)⟩⟩
          · exact ⟨.ref a, rfl, _, _, _, _, rfl, rfl, .inl (.inl m1), rfl, .inl ⟨_, rfl, _, rfl, _, _, rfl, rfl, hM0, .ref a, rfl, _, _, _, _, rfl, rfl, .inl (.inl m1), rfl, .inl ⟨_, rfl, _, rfl, _, _, rfl, rfl, ⟨hM0, hM2⟩, .ref a, rfl, a, _, 2, 2, rfl, rfl, m1, rfl, _, rfl, tail _ _ _ _ m1 m2 k3 mB _ _ _ rfl (.inr ⟨_, rfl⟩)⟩⟩⟩
      · refine ⟨.ref a, rfl, _, _, _, _, rfl, rfl, .inl (.inl h1'), rfl, _, _, rfl, rfl, _, rfl, ite2 (fun g4 => ?_) (fun g4 => ?_)⟩
        · exact ⟨.ref a, rfl, _, _, _, _, rfl, rfl, .inl (.inl h1'), rfl, .ref a, rfl, _, _, _, _, rfl, rfl, .inl (.inl h1'), rfl, _, _, rfl, fun r hr0 => .inl ⟨_, rfl, _, rfl, _, _, rfl, rfl, hM0, tail _ _ _ _ h1' h2' h3 hB r _ _ rfl (.inl rfl)⟩⟩
        · exact ⟨.ref a, rfl, _, _, _, _, rfl, rfl, .inl (.inl h1'), rfl, .inl ⟨_, rfl, _, rfl, _, _, rfl, rfl, hM0, .ref a, rfl, _, _, _, _, rfl, rfl, .inl (.inl h1'), rfl, .inl ⟨_, rfl, _, rfl, _, _, rfl, rfl, ⟨hM0, hM2⟩, .ref a, rfl, a, _, 2, 2, rfl, rfl, h1', rfl, _, rfl, tail _ _ _ _ h1' h2' h3 hB _ _ _ rfl (.inr ⟨_, rfl⟩)⟩⟩⟩
    · refine ⟨.ref a, rfl, _, _, _, _, rfl, rfl, .inl (.inl h1'), rfl, _, _, rfl, rfl, _, rfl, ite2 (fun g4 => ?_) (fun g4 => ?_)⟩
      · exact ⟨.ref a, rfl, _, _, _, _, rfl, rfl, .inl (.inl h1'), rfl, .ref a, rfl, _, _, _, _, rfl, rfl, .inl (.inl h1'), rfl, _, _, rfl, fun r hr0 => .inl ⟨_, rfl, _, rfl, _, _, rfl, rfl, hM0, tail _ _ _ _ h1' h2' h3 hB r _ _ rfl (.inl rfl)⟩⟩
      · exact ⟨.ref a, rfl, _, _, _, _, rfl, rfl, .inl (.inl h1'), rfl, .inl ⟨_, rfl, _, rfl, _, _, rfl, rfl, hM0, .ref a, rfl, _, _, _, _, rfl, rfl, .inl (.inl h1'), rfl, .inl ⟨_, rfl, _, rfl, _, _, rfl, rfl, ⟨hM0, hM2⟩, .ref a, rfl, a, _, 2, 2, rfl, rfl, h1', rfl, _, rfl, tail _ _ _ _ h1' h2' h3 hB _ _ _ rfl (.inr ⟨_, rfl⟩)⟩⟩⟩

/-- an alphabet; the store moves on, all else stands -/
def sp_letters (_ : PySem.W.Frag) : Sp := fun vs H Q _ => ∃ (a ca : Addr) (n : Int), vs = [.ref a, .int n] ∧ Sto H a ca ∧
  ∀ (z : Str) (H' : Hp), IsAlpha z → But a H H' → Sto H' a ca → Q (.str z) H'
theorem ok_letters (T : Txt K mg base) : FnOk P w K mg base CX0 (2 + 1) T.f_letters T.fd_letters ["store", "limit"] (sp_letters K) := by
  refine T.F_letters.ok sc_letters (fun vs H Q E h => ?_) (fun cdv A outer s H vs Q E hr h => ?_)
  · obtain ⟨a, ca, n, rfl, _⟩ := h
    rfl
  · obtain ⟨a, ca, n, rfl, S, q⟩ := h
    refine ⟨_, (pss_cons (ps_set (i := 2) sc_letters.nd rfl (.inl rfl) (pe_op op_add pe_int (pe_call (ok_take T) (hr.mono (by first | decide | exact Nat.le_refl _)) (by rfl) T.g_take T.F_take.kp T.b_take .nil pass0 (pa_cons (pv 0) (pa_cons (pe_callB (call_max2 rfl) (by rfl) T.z_max (by decide +kernel) (pa_cons pe_int (pa_cons (pe_callB (call_min2 rfl) (by rfl) T.z_min (by decide +kernel) (pa_cons pe_int (pa_cons (pv 1) pa_nil))) pa_nil))) pa_nil)))))
      (pss_cons (ps_set (i := 3) sc_letters.nd rfl (.inl rfl) pe_str)
      (pss_cons (ps_set (i := 4) sc_letters.nd rfl (.inl rfl) (pe_call (ok_take T) (hr.mono (by first | decide | exact Nat.le_refl _)) (by rfl) T.g_take T.F_take.kp T.b_take .nil pass0 (pa_cons (pv 0) (pa_cons pe_int pa_nil))))
      (pss_cons (ps_if (pt_cmpR op_eq (pv 4) pe_int (nomark _)) (pss_one (ps_ret (pe_slice sl_str (pv 3) po_none (po_some (pv 2))))) pss_nil)
      (pss_cons (ps_if (pt_cmpR op_eq (pv 4) pe_int (nomark _)) (pss_one (ps_ret (pe_slice sl_str (pv 3) (po_some (pe_op op_sub pe_int (pv 2))) po_none))) pss_nil)
      (pss_cons (ps_set (i := 5) sc_letters.nd rfl (.inl rfl) (pe_un un_neg pe_int))
      (pss_cons (ps_set (i := 6) sc_letters.nd rfl (.inl rfl) pe_str)
      (pss_cons (ps_for PassesOwn.never rfl (pi_range1 (by rfl) T.z_range (pa_cons (pv 2) pa_nil)) (pg_name (i := 7) sc_letters.nd rfl (.inl rfl)) (pss_cons (ps_set (i := 5) sc_letters.nd rfl (.inl rfl) (pe_op op_add (pe_op op_add (pv 5) pe_int) (pe_call (ok_take T) (hr.mono (by first | decide | exact Nat.le_refl _)) (by rfl) T.g_take T.F_take.kp T.b_take .nil pass0 (pa_cons (pv 0) (pa_cons (pe_op op_sub (pe_op op_add (pe_op op_sub pe_int (pv 2)) (pv 7)) (pv 5)) pa_nil)))))
      (pss_one (ps_set (i := 6) sc_letters.nd rfl (.inl rfl) (pe_op op_add_str (pv 6) (pe_ix ix_str (pv 3) (pv 5) (fun _ _ => rfl)))))))
      (pss_one (ps_ret (pv 6))))))))))), ?_⟩
    have hm : (if (if n < 4 then n else 4) > 1 then (if n < 4 then n else 4) else 1) ≤ 4 ∧ 1 ≤ (if (if n < 4 then n else 4) > 1 then (if n < 4 then n else 4) else 1) := by
      split <;> split <;> omega
    refine ⟨_, rfl, _, rfl, _, _, rfl, _, _, rfl, a, ca, _, rfl, S, Int.lt_of_le_of_lt hm.1 (by decide), fun d H1 d0 d1 B1 S1 => ?_⟩
    have d4 : d < 4 := by
      have e1 : d < (if (if n < 4 then n else 4) > 1 then (if n < 4 then n else 4) else 1) ∨ d = 0 := d1
      omega
    obtain ⟨j, rfl⟩ := Int.eq_ofNat_of_zero_le d0
    have hj : j < 4 := by omega
    refine ⟨_, _, rfl, rfl, _, rfl, a, ca, 4, rfl, S1, by decide, fun e H2 e0 e1 B2 S2 => ?_⟩
    have B12 := B1.trans B2
    refine ⟨_, rfl, rfl, _, rfl, ite2 (fun g1 => ?_) (fun g1 => ?_)⟩
    · -- every[:size]
      refine ⟨_, rfl, _, rfl, _, rfl, abc, rfl, small_text (by rw [len_abc]; decide), ?_⟩
      have e : (1 : Int) + (j : Int) = ((1 + j : Nat) : Int) := by omega
      show Q (.str (cutS abc none (some (1 + (j : Int))))) H2
      rw [e]
      exact q _ _ (abc_upto (by omega) (by omega)) B12 S2
    · refine ⟨_, rfl, rfl, _, rfl, ite2 (fun g2 => ?_) (fun g2 => ?_)⟩
      · -- every[26 - size:]
        refine ⟨_, rfl, _, rfl, _, _, rfl, rfl, _, rfl, abc, rfl, small_text (by rw [len_abc]; decide), ?_⟩
        have e : (26 : Int) - (1 + (j : Int)) = ((25 - j : Nat) : Int) := by omega
        show Q (.str (cutS abc (some (26 - (1 + (j : Int)))) none)) H2
        rw [e]
        exact q _ _ (abc_from (by omega) (by omega)) B12 S2
      · refine ⟨_, rfl, _, rfl, _, rfl, by show -(2 ^ 62 : Int) ≤ 1 + (j : Int); omega, by show 1 + (j : Int) < 2 ^ 62; omega, ?_⟩
        have ej : ((1 : Int) + (j : Int)).toNat = j + 1 := by omega
        refine for_range (lo := 0) (n := ((1 : Int) + (j : Int)).toNat) (fun i σ H' => ∃ (at_ : Int) (v : Str) (y : Option V), σ = [some (.ref a), some (.int n), some (.int (1 + (j : Int))), some (.str abc), some (.int e), some (.int at_), some (.str v), y] ∧
          But a H H' ∧ Sto H' a ca ∧ -1 ≤ at_ ∧ at_ ≤ 25 - (1 + (j : Int)) + (i : Int) ∧ v.length = i ∧ (cs v).Pairwise (· < ·) ∧ ∀ c ∈ cs v, 97 ≤ c ∧ (c : Int) ≤ 97 + at_) ?_ ?_ ?_
        · refine ⟨-1, Str.ofString "", none, rfl, B12, S2, by decide, by omega, by decide +kernel, ?_, fun c m => ?_⟩
          · rw [cs_empty]
            exact .nil
          · rw [cs_empty] at m
            exact absurd m List.not_mem_nil
        · rintro i σ H3 hi ⟨at_, v, y, rfl, B3, S3, a0, a1, hl, hp, hc⟩
          have hi' : i < j + 1 := by rw [← ej]; exact hi
          refine ⟨_, rfl, _, _, rfl, rfl, _, rfl, _, rfl, _, _, rfl, rfl, _, rfl, _, _, rfl, rfl, _, rfl, _, _, rfl, rfl, a, ca, _, rfl, S3, by show 26 - (1 + (j : Int)) + (0 + (i : Int)) - at_ < 1073741824; omega, fun f H4 f0 f1 B4 S4 => ?_⟩
          have f1' : f < 26 - (1 + (j : Int)) + (0 + (i : Int)) - at_ ∨ f = 0 := f1
          have k0 : 0 ≤ at_ + 1 + f := by omega
          have k1 : at_ + 1 + f ≤ 25 - (1 + (j : Int)) + ((i : Int) + 1) := by omega
          obtain ⟨g, eg⟩ := Int.eq_ofNat_of_zero_le k0
          have hg : g < 26 := by omega
          have hat : atI (cs abc) (at_ + 1 + f) = some (97 + g) := by
            rw [eg, cs_abc]
            refine atI_nat ?_
            rw [List.getElem?_range' hg]
            simp
          refine ⟨_, _, rfl, rfl, _, rfl, _, rfl, _, rfl, abc, _, _, rfl, rfl, small_text (by rw [len_abc]; decide), hat, _, _, rfl, rfl, ?_, ?_⟩
          · refine small_text ?_
            show v.length + 1 ≤ 1000000
            omega
          · refine ⟨at_ + 1 + f, v ++ ⟨#[97 + g]⟩, _, rfl, B3.trans B4, S4, by omega, by omega, ?_, ?_, fun c m => ?_⟩
            · rw [length_app, hl]
              rfl
            · rw [cs_app, cs_one]
              refine List.pairwise_append.mpr ⟨hp, List.pairwise_singleton _ _, fun x hx y hy => ?_⟩
              rw [List.mem_singleton.mp hy]
              have := hc x hx
              omega
            · rw [cs_app, cs_one] at m
              rcases List.mem_append.mp m with m | m
              · have := hc c m
                omega
              · rw [List.mem_singleton.mp m]
                omega
        · rintro σ H3 ⟨at_, v, y, rfl, B3, S3, a0, a1, hl, hp, hc⟩
          refine ⟨_, rfl, q v H3 ⟨hp, fun c m => ?_, ?_, ?_⟩ B3 S3⟩
          · have := hc c m
            omega
          · omega
          · omega

/-- a sign of the text, an item of the list; the store moves on, all else stands -/
def sp_pick (_ : PySem.W.Frag) : Sp := fun vs H Q _ => ∃ (a ca : Addr), Sto H a ca ∧ ((∃ z : Str, vs = [.ref a, .str z] ∧ 0 < z.length ∧ z.length ≤ 1000000 ∧
    ∀ (c : Nat) (H' : Hp), c ∈ cs z → But a H H' → Sto H' a ca → Q (.str ⟨#[c]⟩) H') ∨
  (∃ (l : Addr) (xs : List V), vs = [.ref a, .ref l] ∧ l ≠ a ∧ H l = some (.lst xs) ∧ 0 < xs.length ∧ xs.length ≤ 1000000 ∧
    ∀ (x : V) (H' : Hp), x ∈ xs → But a H H' → Sto H' a ca → Q x H'))
theorem ok_pick (T : Txt K mg base) : FnOk P w K mg base CX0 (2 + 1) T.f_pick T.fd_pick ["store", "row"] (sp_pick K) := by
  refine T.F_pick.ok sc_pick (fun vs H Q E h => ?_) (fun cdv A outer s H vs Q E hr h => ?_)
  · obtain ⟨a, ca, _, ⟨z, rfl, _⟩ | ⟨l, xs, rfl, _⟩⟩ := h <;> rfl
  · obtain ⟨a, ca, S, h⟩ := h
    refine ⟨_, (pss_one (ps_ret (pe_ix ix_seq (pv 1) (pe_call (ok_take T) (hr.mono (by first | decide | exact Nat.le_refl _)) (by rfl) T.g_take T.F_take.kp T.b_take .nil pass0 (pa_cons (pv 0) (pa_cons (pe_callB call_len (by rfl) T.z_len PySem.boot_len (pa_cons (pv 1) pa_nil)) pa_nil))) (fun _ _ => rfl)))), ?_⟩
    rcases h with ⟨z, rfl, h0, h1, q⟩ | ⟨l, xs, rfl, hla, hl, h0, h1, q⟩
    · refine ⟨_, rfl, _, rfl, _, rfl, _, _, rfl, ⟨small_text h1, rfl⟩, a, ca, _, rfl, S, by omega, fun d H' d0 d1 hB S' => ?_⟩
      obtain ⟨j, rfl⟩ := Int.eq_ofNat_of_zero_le d0
      have hj : j < (cs z).length := by
        rw [cs_len]
        omega
      exact .inr (.inr ⟨z, _, (cs z)[j], rfl, rfl, small_text h1, atI_nat (List.getElem?_eq_getElem hj), q _ _ (List.getElem_mem hj) hB S'⟩)
    · refine ⟨_, rfl, _, rfl, _, rfl, _, _, rfl, .inl ⟨_, .inl (.inl hl), rfl⟩, a, ca, _, rfl, S, by omega, fun d H' d0 d1 hB S' => ?_⟩
      obtain ⟨j, rfl⟩ := Int.eq_ofNat_of_zero_le d0
      have hj : j < xs.length := by omega
      exact .inl ⟨l, xs, _, xs[j], rfl, rfl, .inl (.inl (hB _ _ hla hl)), atI_nat (List.getElem?_eq_getElem hj), q _ _ (List.getElem_mem hj) hB S'⟩

/-- a text of letters of z, of at most n signs -/
def sp_word (_ : PySem.W.Frag) : Sp := fun vs H Q _ => ∃ (a ca : Addr) (z : Str) (n : Int), vs = [.ref a, .str z, .int n] ∧ Sto H a ca ∧ 0 < z.length ∧ z.length ≤ 1000000 ∧ n ≤ 100000 ∧
  ∀ (v : Str) (H' : Hp), Over z v → (v.length : Int) ≤ (if n < 0 then 0 else n) → But a H H' → Sto H' a ca → Q (.str v) H'
theorem ok_word (T : Txt K mg base) : FnOk P w K mg base CX0 (3 + 1) T.f_word T.fd_word ["store", "letters", "limit"] (sp_word K) := by
  refine T.F_word.ok sc_word (fun vs H Q E h => ?_) (fun cdv A outer s H vs Q E hr h => ?_)
  · obtain ⟨a, ca, z, n, rfl, _⟩ := h
    rfl
  · obtain ⟨a, ca, z, n, rfl, S, hz0, hz1, hn, q⟩ := h
    refine ⟨_, (pss_cons (ps_set (i := 3) sc_word.nd rfl (.inl rfl) (pe_call (ok_take T) (hr.mono (by first | decide | exact Nat.le_refl _)) (by rfl) T.g_take T.F_take.kp T.b_take .nil pass0 (pa_cons (pv 0) (pa_cons pe_int pa_nil))))
      (pss_cons (ps_if (PW.pt (pw_or (pt_cmpR op_eq (pv 3) pe_int (nomark _)) (pw_or1 (pt_cmpR op_lt (pv 2) pe_int (nomark _))))) (pss_one (ps_ret pe_str)) pss_nil)
      (pss_cons (ps_if (pt_cmpR op_eq (pv 3) pe_int (nomark _)) (pss_one (ps_ret (pe_op op_rep_str (pe_call (ok_pick T) (hr.mono (by first | decide | exact Nat.le_refl _)) (by rfl) T.g_pick T.F_pick.kp T.b_pick .nil pass0 (pa_cons (pv 0) (pa_cons (pv 1) pa_nil))) (pv 2)))) pss_nil)
      (pss_cons (ps_set (i := 4) sc_word.nd rfl (.inl rfl) (pv 2))
      (pss_cons (ps_if (pt_cmpR op_gt (pv 3) pe_int (nomark _)) (pss_one (ps_set (i := 4) sc_word.nd rfl (.inl rfl) (pe_call (ok_take T) (hr.mono (by first | decide | exact Nat.le_refl _)) (by rfl) T.g_take T.F_take.kp T.b_take .nil pass0 (pa_cons (pv 0) (pa_cons (pe_op op_add (pv 2) pe_int) pa_nil))))) pss_nil)
      (pss_cons (ps_if (pt_cmpR op_eq (pv 3) pe_int (nomark _)) (pss_one (ps_ret (pe_op op_rep_str (pe_call (ok_pick T) (hr.mono (by first | decide | exact Nat.le_refl _)) (by rfl) T.g_pick T.F_pick.kp T.b_pick .nil pass0 (pa_cons (pv 0) (pa_cons (pv 1) pa_nil))) (pv 4)))) pss_nil)
      (pss_one (ps_ret (pe_join pe_str (pe_lc (own := [("k", 5)]) (g := gName 5) rfl sc_word.nd (pi_range1 (by rfl) T.z_range (pa_cons (pv 4) pa_nil)) (blkOk_by (N := ["store", "letters", "limit", "draw", "size", "k"]) (sc := defScope s_word) (by decide +kernel)) (fun _ _ _ _ _ => pg_name (i := 5) sc_word.nd rfl (Or.inl rfl)) (fun _ _ _ _ _ => pts_nil) (fun _ _ _ _ _ => (pe_call (ok_pick T) (hr.mono (by first | decide | exact Nat.le_refl _)) (by rfl) T.g_pick T.F_pick.kp T.b_pick .nil pass0 (pa_cons (pv 0) (pa_cons (pv 1) pa_nil)))))))))))))), ?_⟩
    refine ⟨_, rfl, a, ca, 9, rfl, S, by decide, fun d H1 d0 d1 B1 S1 => ?_⟩
    have h0 : ((0 : Nat) : Int) ≤ (if n < 0 then 0 else n) := by split <;> omega
    refine ⟨_, rfl, rfl, _, rfl, ite2 (fun g1 => ?_) (fun g1 => ?_)⟩
    · exact q _ _ Over.empty h0 B1 S1
    · refine ⟨_, rfl, _, _, rfl, rfl, _, rfl, ite2 (fun g2 => ?_) (fun g2 => ?_)⟩
      · exact q _ _ Over.empty h0 B1 S1
      · have g2' : 1 ≤ n := by
          have := of_decide_eq_false (Bool.not_eq_true _ ▸ g2 : decide (n < 1) = false)
          omega
        have hn0 : (if n < 0 then (0 : Int) else n) = n := if_neg (by omega)
        rw [hn0] at q
        have one_ok : ∀ (c : Nat) (k : Int) (H' : Hp), c ∈ cs z → 0 ≤ k → k ≤ n → But a H H' → Sto H' a ca → Q (.str (Txt.mul ⟨#[c]⟩ k)) H' := fun c k H' hc k0 k1 B S => by
          refine q _ _ (Over.one hc).mul ?_ B S
          rw [length_mul]
          show ((1 * k.toNat : Nat) : Int) ≤ n
          omega
        refine ⟨_, rfl, rfl, _, rfl, ite2 (fun g3 => ?_) (fun g3 => ?_)⟩
        · refine ⟨_, rfl, _, rfl, a, ca, S1, .inl ⟨z, rfl, hz0, hz1, fun c H2 hc B2 S2 => ⟨_, rfl, _, n, rfl, rfl, by show 1 ≤ 16; decide, by omega, by omega, one_ok c n H2 hc (by omega) (Int.le_refl _) (B1.trans B2) S2⟩⟩⟩
        · refine ⟨_, rfl, _, rfl, _, _, rfl, rfl, _, rfl, ite2 (fun g4 => ?_) (fun g4 => ?_)⟩
          · refine ⟨_, rfl, _, rfl, _, _, rfl, rfl, a, ca, _, rfl, S1, by show n + 1 < 1073741824; omega, fun k H2 k0 k1 B2 S2 => ?_⟩
            have k2 : k < n + 1 ∨ k = 0 := k1
            have kn : k ≤ n := by omega
            refine ⟨_, rfl, rfl, _, rfl, ite2 (fun g5 => ?_) (fun g5 => ?_)⟩
            · exact ⟨_, rfl, _, rfl, a, ca, S2, .inl ⟨z, rfl, hz0, hz1, fun c H3 hc B3 S3 => ⟨_, rfl, _, k, rfl, rfl, by show 1 ≤ 16; decide, by omega, by omega, one_ok c k H3 hc k0 kn ((B1.trans B2).trans B3) S3⟩⟩⟩
            · refine ⟨⟨_, rfl⟩, _, rfl, k, rfl, by show -(2 ^ 62 : Int) ≤ k; omega, by show k < 2 ^ 62; omega, fun D hD => ?_⟩
              have hDa : D ≠ a := (S2.ne hD).1
              refine lc_range (lo := 0) (n := (k).toNat) (fun i H' => ∃ ys : List Str, H' D = some (.lst (ys.map V.str)) ∧ ys.length = i ∧ (∀ y ∈ ys, ∃ c ∈ cs z, y = ⟨#[c]⟩) ∧ But a H H' ∧ Sto H' a ca) ?_ ?_ ?_
              · exact ⟨[], upd_same, rfl, fun y m => absurd m List.not_mem_nil, (B1.trans B2).trans (But.new hD), S2.new hD⟩
              · rintro i H' hi ⟨ys, h1, h2, h3, B, S'⟩
                refine ⟨rfl, ?_⟩
                refine ⟨_, rfl, _, rfl, a, ca, S', .inl ⟨z, rfl, hz0, hz1, fun c H3 hc B3 S3 => ?_⟩⟩
                refine ⟨_, B3 _ _ hDa h1, ?_, ys ++ [⟨#[c]⟩], ?_, ?_, ?_, ?_, ?_⟩
                · rw [List.length_map, h2]
                  have hi' : i < (k).toNat := hi
                  exact Nat.lt_of_lt_of_le (by omega : i < 1000000) (by decide)
                · rw [upd_same, List.map_append]
                  rfl
                · rw [List.length_append, h2]
                  rfl
                · intro y m
                  rcases List.mem_append.mp m with m | m
                  · exact h3 y m
                  · exact ⟨c, hc, List.mem_singleton.mp m⟩
                · exact (B1.trans B2).grown hD (B.trans B3) (B3 _ _ hDa h1)
                · exact S3.put (S2.ne hD)
              · rintro H' ⟨ys, h1, h2, h3, B, S'⟩
                have sum1 : (ys.map (·.length)).sum = ys.length := by
                  clear h1 h2
                  induction ys with
                  | nil => rfl
                  | cons y r ih =>
                    obtain ⟨c, _, rfl⟩ := h3 y List.mem_cons_self
                    rw [List.map_cons, List.sum_cons, ih fun x m => h3 x (List.mem_cons_of_mem _ m), List.length_cons]
                    show 1 + r.length = r.length + 1
                    omega
                refine ⟨_, _, ys, rfl, rfl, .inl (.inl (.inl h1)), ?_, q _ _ ?_ ?_ B S'⟩
                · rw [sum1]
                  show ys.length + ys.length * 0 ≤ 16777216
                  omega
                · intro c m
                  rw [cs_join0, List.mem_flatten] at m
                  obtain ⟨l, hl, hc⟩ := m
                  obtain ⟨y, hy, rfl⟩ := List.mem_map.mp hl
                  obtain ⟨c', hc', rfl⟩ := h3 y hy
                  rw [cs_one] at hc
                  rw [List.mem_singleton.mp hc]
                  exact hc'
                · have e : (Txt.join (Str.ofString "") ys).length = ys.length := by
                    rw [← cs_len, cs_join0, List.length_flatten, List.map_map]
                    rw [← sum1]
                    congr 1
                  rw [e]
                  omega
          · have nn : 0 ≤ n := by omega
            refine ⟨_, rfl, rfl, _, rfl, ite2 (fun g5 => ?_) (fun g5 => ?_)⟩
            · exact ⟨_, rfl, _, rfl, a, ca, S1, .inl ⟨z, rfl, hz0, hz1, fun c H3 hc B3 S3 => ⟨_, rfl, _, n, rfl, rfl, by show 1 ≤ 16; decide, by omega, by omega, one_ok c n H3 hc nn (Int.le_refl _) (B1.trans B3) S3⟩⟩⟩
            · refine ⟨⟨_, rfl⟩, _, rfl, n, rfl, by show -(2 ^ 62 : Int) ≤ n; omega, by show n < 2 ^ 62; omega, fun D hD => ?_⟩
              have hDa : D ≠ a := (S1.ne hD).1
              refine lc_range (lo := 0) (n := (n).toNat) (fun i H' => ∃ ys : List Str, H' D = some (.lst (ys.map V.str)) ∧ ys.length = i ∧ (∀ y ∈ ys, ∃ c ∈ cs z, y = ⟨#[c]⟩) ∧ But a H H' ∧ Sto H' a ca) ?_ ?_ ?_
              · exact ⟨[], upd_same, rfl, fun y m => absurd m List.not_mem_nil, B1.trans (But.new hD), S1.new hD⟩
              · rintro i H' hi ⟨ys, h1, h2, h3, B, S'⟩
                refine ⟨rfl, ?_⟩
                refine ⟨_, rfl, _, rfl, a, ca, S', .inl ⟨z, rfl, hz0, hz1, fun c H3 hc B3 S3 => ?_⟩⟩
                refine ⟨_, B3 _ _ hDa h1, ?_, ys ++ [⟨#[c]⟩], ?_, ?_, ?_, ?_, ?_⟩
                · rw [List.length_map, h2]
                  have hi' : i < (n).toNat := hi
                  exact Nat.lt_of_lt_of_le (by omega : i < 1000000) (by decide)
                · rw [upd_same, List.map_append]
                  rfl
                · rw [List.length_append, h2]
                  rfl
                · intro y m
                  rcases List.mem_append.mp m with m | m
                  · exact h3 y m
                  · exact ⟨c, hc, List.mem_singleton.mp m⟩
                · exact B1.grown hD (B.trans B3) (B3 _ _ hDa h1)
                · exact S3.put (S1.ne hD)
              · rintro H' ⟨ys, h1, h2, h3, B, S'⟩
                have sum1 : (ys.map (·.length)).sum = ys.length := by
                  clear h1 h2
                  induction ys with
                  | nil => rfl
                  | cons y r ih =>
                    obtain ⟨c, _, rfl⟩ := h3 y List.mem_cons_self
                    rw [List.map_cons, List.sum_cons, ih fun x m => h3 x (List.mem_cons_of_mem _ m), List.length_cons]
                    show 1 + r.length = r.length + 1
                    omega
                refine ⟨_, _, ys, rfl, rfl, .inl (.inl (.inl h1)), ?_, q _ _ ?_ ?_ B S'⟩
                · rw [sum1]
                  show ys.length + ys.length * 0 ≤ 16777216
                  omega
                · intro c m
                  rw [cs_join0, List.mem_flatten] at m
                  obtain ⟨l, hl, hc⟩ := m
                  obtain ⟨y, hy, rfl⟩ := List.mem_map.mp hl
                  obtain ⟨c', hc', rfl⟩ := h3 y hy
                  rw [cs_one] at hc
                  rw [List.mem_singleton.mp hc]
                  exact hc'
                · have e : (Txt.join (Str.ofString "") ys).length = ys.length := by
                    rw [← cs_len, cs_join0, List.length_flatten, List.map_map]
                    rw [← sum1]
                    congr 1
                  rw [e]
                  omega

def sp_arc (_ : PySem.W.Frag) : Sp := fun vs H Q _ => ∃ (a ca : Addr) (r z : Str) (n lo : Int), vs = [.ref a, .str r, .str z, .int n, .int lo] ∧ Sto H a ca ∧ IsAlpha r ∧ IsAlpha z ∧ 1 ≤ n ∧ n ≤ 1000 ∧ 0 ≤ lo ∧ lo ≤ 100 ∧
  ∀ (t : Addr) (e : EnS.Arc) (H' : Hp), GoodA r z n e → e.2.2.1.length ≤ 100 → But a H H' → Sto H' a ca → H t = none → t ≠ a → t ≠ ca → H' t = some (.tup (aimg e)) → Q (.ref t) H'
theorem ok_arc (T : Txt K mg base) : FnOk P w K mg base CX0 (4 + 1) T.f_arc T.fd_arc ["store", "read", "write", "size", "longest"] (sp_arc K) := by
  refine T.F_arc.ok sc_arc (fun vs H Q E h => ?_) (fun cdv A outer s H vs Q E hr h => ?_)
  · obtain ⟨a, ca, r, z, n, lo, rfl, _⟩ := h
    rfl
  · obtain ⟨a, ca, r, z, n, lo, rfl, S, ar, az, n1, n2, l0, l1, q⟩ := h
    refine ⟨_, (pss_cons (ps_set (i := 5) sc_arc.nd rfl (.inl rfl) (pe_call (ok_pick T) (hr.mono (by first | decide | exact Nat.le_refl _)) (by rfl) T.g_pick T.F_pick.kp T.b_pick .nil pass0 (pa_cons (pv 0) (pa_cons (pv 1) pa_nil))))
      (pss_cons (ps_set (i := 6) sc_arc.nd rfl (.inl rfl) (pe_call (ok_word T) (hr.mono (by first | decide | exact Nat.le_refl _)) (by rfl) T.g_word T.F_word.kp T.b_word .nil pass0 (pa_cons (pv 0) (pa_cons (pv 2) (pa_cons (pv 4) pa_nil)))))
      (pss_one (ps_ret (pe_tup (pa_cons (pe_call (ok_take T) (hr.mono (by first | decide | exact Nat.le_refl _)) (by rfl) T.g_take T.F_take.kp T.b_take .nil pass0 (pa_cons (pv 0) (pa_cons (pv 3) pa_nil))) (pa_cons (pv 5) (pa_cons (pv 6) (pa_cons (pe_call (ok_take T) (hr.mono (by first | decide | exact Nat.le_refl _)) (by rfl) T.g_take T.F_take.kp T.b_take .nil pass0 (pa_cons (pv 0) (pa_cons (pv 3) pa_nil))) pa_nil))))))))), ?_⟩
    refine ⟨_, rfl, _, rfl, a, ca, S, .inl ⟨r, rfl, ar.len1, ar.small, fun c H1 hc B1 S1 => ?_⟩⟩
    refine ⟨_, rfl, _, rfl, _, rfl, a, ca, z, lo, rfl, S1, az.len1, az.small, by omega, fun v H2 ov lv B2 S2 => ?_⟩
    refine ⟨_, rfl, _, rfl, a, ca, n, rfl, S2, by omega, fun i H3 i0 i1 B3 S3 => ⟨_, rfl, _, rfl, _, rfl, _, rfl, a, ca, n, rfl, S3, by omega, fun j H4 j0 j1 B4 S4 => ?_⟩⟩
    refine ⟨by show 4 ≤ sizeLine; decide, fun p np => ?_⟩
    have npa := S4.ne np
    have B := ((B1.trans B2).trans B3).trans B4
    have l1' : (v.length : Int) ≤ lo := by
      rw [if_neg (by omega)] at lv
      exact lv
    refine q p (i, ⟨#[c]⟩, v, j) _ ⟨i0, by show i ≤ n - 1; omega, rfl, fun d hd => ?_, ov, by show (v.length : Int) ≤ 400; omega, j0, by show j ≤ n - 1; omega⟩ (by show v.length ≤ 100; omega) (B.trans (But.new np)) (S4.new np) (B.free np npa.1) npa.1 npa.2 upd_same
    rw [show d = c from List.mem_singleton.mp hd]
    exact hc

def sp_between (_ : PySem.W.Frag) : Sp := fun vs H Q _ => ∃ (a ca : Addr) (lo hi : Int), vs = [.ref a, .int lo, .int hi] ∧ Sto H a ca ∧ hi - lo < 1000000000 ∧
  ∀ (r : Int) (H' : Hp), lo ≤ r → (r ≤ hi ∨ r = lo) → But a H H' → Sto H' a ca → Q (.int r) H'
theorem ok_between (T : Txt K mg base) : FnOk P w K mg base CX0 (2 + 1) T.f_between T.fd_between ["store", "low", "high"] (sp_between K) := by
  refine T.F_between.ok sc_between (fun vs H Q E h => ?_) (fun cdv A outer s H vs Q E hr h => ?_)
  · obtain ⟨a, ca, lo, hi, rfl, _⟩ := h
    rfl
  · obtain ⟨a, ca, lo, hi, rfl, S, hd, q⟩ := h
    refine ⟨_, (pss_cons (ps_set (i := 3) sc_between.nd rfl (.inl rfl) (pe_call (ok_take T) (hr.mono (by first | decide | exact Nat.le_refl _)) (by rfl) T.g_take T.F_take.kp T.b_take .nil pass0 (pa_cons (pv 0) (pa_cons pe_int pa_nil))))
      (pss_cons (ps_if (PW.pt (pw_or (pt_cmpR op_eq (pv 3) pe_int (nomark _)) (pw_or1 (pt_cmpR op_lt (pv 2) (pv 1) (nomark _))))) (pss_one (ps_ret (pv 1))) pss_nil)
      (pss_cons (ps_if (pt_cmpR op_eq (pv 3) pe_int (nomark _)) (pss_one (ps_ret (pv 2))) pss_nil)
      (pss_one (ps_ret (pe_op op_add (pv 1) (pe_call (ok_take T) (hr.mono (by first | decide | exact Nat.le_refl _)) (by rfl) T.g_take T.F_take.kp T.b_take .nil pass0 (pa_cons (pv 0) (pa_cons (pe_op op_add (pe_op op_sub (pv 2) (pv 1)) pe_int) pa_nil))))))))), ?_⟩
    refine ⟨_, rfl, a, ca, 6, rfl, S, by decide, fun d H1 d0 d1 B1 S1 => ?_⟩
    refine ⟨_, rfl, rfl, _, rfl, ite2 (fun g1 => ?_) (fun g1 => ?_)⟩
    · exact ⟨_, rfl, q _ _ (Int.le_refl _) (.inr rfl) B1 S1⟩
    · refine ⟨_, rfl, _, rfl, _, _, rfl, rfl, _, rfl, ite2 (fun g2 => ?_) (fun g2 => ?_)⟩
      · exact ⟨_, rfl, q _ _ (Int.le_refl _) (.inr rfl) B1 S1⟩
      · have g2' : lo ≤ hi := by
          have := of_decide_eq_false (Bool.not_eq_true _ ▸ g2 : decide (hi < lo) = false)
          omega
        refine ⟨_, rfl, rfl, _, rfl, ite2 (fun g3 => ?_) (fun g3 => ?_)⟩
        · exact ⟨_, rfl, q _ _ g2' (.inl (Int.le_refl _)) B1 S1⟩
        · refine ⟨_, rfl, _, rfl, _, rfl, _, rfl, _, _, rfl, rfl, _, _, rfl, rfl, a, ca, _, rfl, S1, by show hi - lo + 1 < _; omega, fun e H2 e0 e1 B2 S2 => ?_⟩
          have e1' : e < hi - lo + 1 ∨ e = 0 := e1
          exact ⟨_, _, rfl, rfl, q _ _ (by omega) (by omega) (B1.trans B2) S2⟩

/-- the numbers below n in some order -/
def natV (ps : List Nat) : List V := ps.map fun i => V.int ((i : Nat) : Int)
theorem rg_nat (n : Nat) : rgV 0 (n : Int) = natV (List.range n) := by
  unfold rgV natV
  rw [Int.sub_zero, Int.toNat_natCast]
  exact List.map_congr_left fun i _ => by rw [Int.zero_add]
def sp_order (_ : PySem.W.Frag) : Sp := fun vs H Q _ => ∃ (a ca : Addr) (n : Nat), vs = [.ref a, .int (n : Int)] ∧ Sto H a ca ∧ n ≤ 1000 ∧
  ∀ (ps : List Nat) (p : Addr) (H' : Hp), ps.Perm (List.range n) → But a H H' → Sto H' a ca → H p = none → p ≠ a → p ≠ ca → H' p = some (.lst (natV ps)) → Q (.ref p) H'
theorem ok_order (T : Txt K mg base) : FnOk P w K mg base CX0 (2 + 1) T.f_order T.fd_order ["store", "size"] (sp_order K) := by
  refine T.F_order.ok sc_order (fun vs H Q E h => ?_) (fun cdv A outer s H vs Q E hr h => ?_)
  · obtain ⟨a, ca, n, rfl, _⟩ := h
    rfl
  · obtain ⟨a, ca, n, rfl, S, hn, q⟩ := h
    refine ⟨_, (pss_cons (ps_if (pt_cmpR op_eq (pe_call (ok_take T) (hr.mono (by first | decide | exact Nat.le_refl _)) (by rfl) T.g_take T.F_take.kp T.b_take .nil pass0 (pa_cons (pv 0) (pa_cons pe_int pa_nil))) pe_int (nomark _)) (pss_one (ps_ret (pe_listRg rfl (by rfl) T.z_list (prg_1 (by rfl) T.z_range (pv 1))))) pss_nil)
      (pss_cons (ps_set (i := 2) sc_order.nd rfl (.inl rfl) (pe_listRg rfl (by rfl) T.z_list (prg_1 (by rfl) T.z_range (pv 1))))
      (pss_cons (ps_set (i := 3) sc_order.nd rfl (.inl rfl) (pe_lst pa_nil))
      (pss_cons (ps_for PassesOwn.never rfl (pi_range1 (by rfl) T.z_range (pa_cons (pv 1) pa_nil)) (pg_name (i := 4) sc_order.nd rfl (.inl rfl)) (pss_one (ps_expr (pe_bm PySem.F.plainAttrs_list PySem.F.slot_list_append PySem.F.type_list_append mt_append (pv 3) (pa_cons (pe_bm PySem.F.plainAttrs_list PySem.F.slot_list_pop PySem.F.type_list_pop mt_popAt (pv 2) (pa_cons (pe_call (ok_take T) (hr.mono (by first | decide | exact Nat.le_refl _)) (by rfl) T.g_take T.F_take.kp T.b_take .nil pass0 (pa_cons (pv 0) (pa_cons (pe_callB call_len_seq (by rfl) T.z_len PySem.boot_len (pa_cons (pv 2) pa_nil)) pa_nil))) pa_nil)) pa_nil)))))
      (pss_one (ps_ret (pv 3))))))), ?_⟩
    have rg : RgOk 0 (n : Int) := RgOk.of_le (by omega) (by omega) (by omega) (by omega)
    refine ⟨_, rfl, a, ca, 3, rfl, S, by decide, fun d H1 _ _ B1 S1 => ⟨rfl, _, rfl, ite2 (fun _ => ?_) (fun _ => ?_)⟩⟩
    · refine ⟨_, rfl, (n : Int), rfl, rg, fun p np => ?_⟩
      have k := same_new (o := .lst (rgV 0 (n : Int))) np
      have npa := S1.ne np
      exact q (List.range n) p _ (.refl _) (B1.trans (But.same k)) (S1.new np) (B1.free np npa.1) npa.1 npa.2 (by rw [upd_same, rg_nat])
    refine ⟨_, rfl, (n : Int), rfl, rg, fun l nl => ?_⟩
    have k1 := same_new (o := .lst (rgV 0 (n : Int))) nl
    have nla := S1.ne nl
    have hl : (upd H1 l (.lst (rgV 0 (n : Int)))) l = some (.lst (natV (List.range n))) := by rw [upd_same, rg_nat]
    have S2 := S1.new (o := .lst (rgV 0 (n : Int))) nl
    have B2 := B1.trans (But.same k1)
    generalize upd H1 l (.lst (rgV 0 (n : Int))) = H2 at k1 hl S2 B2 ⊢
    refine ⟨by show 0 ≤ sizeLine; decide, fun p np => ?_⟩
    have k2 := same_new (o := .lst []) np
    have npa := S2.ne np
    have pl : p ≠ l := fun e => by rw [e, hl] at np; cases np
    have S3 := S2.new (o := .lst []) np
    have B3 := B2.trans (But.same k2)
    have hp : (upd H2 p (.lst [])) p = some (.lst []) := upd_same
    have hl3 := k2 _ _ hl
    have np0 : H p = none := B2.free np npa.1
    have nl0 : H l = none := B1.free nl nla.1
    generalize upd H2 p (.lst []) = H3 at k2 S3 B3 hp hl3 ⊢
    refine ⟨_, rfl, (n : Int), rfl, by omega, by omega, ?_⟩
    refine for_range (lo := 0) (n := (n : Int).toNat) (fun i σ H' => ∃ (L R : List Nat) (y : Option V), σ = [some (.ref a), some (.int (n : Int)), some (.ref l), some (.ref p), y] ∧ (R ++ L).Perm (List.range n) ∧ R.length = i ∧ H' l = some (.lst (natV L)) ∧ H' p = some (.lst (natV R)) ∧ But a H H' ∧ Sto H' a ca)
      ⟨List.range n, [], none, rfl, .refl _, rfl, hl3, hp, B3, S3⟩ ?_ ?_
    · rintro i σ H4 hi ⟨L, R, y, rfl, perm, lr, hl4, hp4, B4, S4⟩
      have hi' : i < n := hi
      have lL : L.length = n - i := by
        have := perm.length_eq
        rw [List.length_append, List.length_range, lr] at this
        omega
      have len4 : (natV L).length = L.length := List.length_map ..
      have len5 : (natV R).length = R.length := List.length_map ..
      refine ⟨_, rfl, .inl ⟨rfl, _, .inl (.inl hp4)⟩, _, rfl, .inl ⟨rfl, _, .inl (.inl hl4)⟩, _, rfl, _, rfl, _, _, rfl, .inl (.inl (.inl hl4)), a, ca, _, rfl, S4, by rw [len4]; omega, fun d H5 d0 d1 B5 S5 => ?_⟩
      have hl5 := B5 _ _ nla.1 hl4
      have hp5 := B5 _ _ npa.1 hp4
      obtain ⟨j, rfl⟩ := Int.eq_ofNat_of_zero_le d0
      have hj : j < L.length := by
        rw [len4] at d1
        omega
      have ej : (natV L)[j]? = some (.int ((L[j] : Nat) : Int)) := by
        unfold natV
        rw [List.getElem?_map, List.getElem?_eq_getElem hj]
        rfl
      refine ⟨l, _, _, j, _, rfl, rfl, hl5, by omega, by omega, ?_, ej, ?_⟩
      · rw [PySem.seqIndex_of (by omega) (by rw [len4]; omega), Int.toNat_natCast]
      have er : (natV L).eraseIdx j = natV (L.eraseIdx j) := erase_map ..
      have hp6 : (upd H5 l (.lst ((natV L).eraseIdx j))) p = some (.lst (natV R)) := by
        rw [upd_ne pl]
        exact hp5
      refine ⟨p, _, _, rfl, rfl, hp6, by rw [len5]; exact Nat.lt_of_lt_of_le (by omega : R.length < 1000000) (by decide), L.eraseIdx j, R ++ [L[j]], _, rfl, ?_, by rw [List.length_append, lr]; rfl, ?_, ?_, ?_, ?_⟩
      · rw [List.append_assoc]
        exact (List.Perm.append_left R (erase_perm L j hj)).trans perm
      · rw [upd_ne (Ne.symm pl), upd_same, er]
      · rw [upd_same]
        unfold natV
        rw [List.map_append]
        rfl
      · exact B2.grown np (B1.grown nl (B4.trans B5) hl5) hp6
      · exact (S5.put nla).put npa
    · rintro σ H4 ⟨L, R, y, rfl, perm, lr, hl4, hp4, B4, S4⟩
      have lr' : R.length = n := lr
      have l0 : L = [] := by
        have := perm.length_eq
        rw [List.length_append, List.length_range, lr'] at this
        exact List.length_eq_zero_iff.mp (by omega)
      rw [l0, List.append_nil] at perm
      exact ⟨_, rfl, q R p H4 perm B4 S4 np0 npa.1 npa.2 hp4⟩

/-- the items in some order: a new list -/
def sp_turned (_ : PySem.W.Frag) : Sp := fun vs H Q _ => ∃ (a ca r : Addr) (xs : List V), vs = [.ref a, .ref r] ∧ Sto H a ca ∧ r ≠ a ∧ H r = some (.lst xs) ∧ xs.length ≤ 1000 ∧
  ∀ (ys : List V) (p : Addr) (H' : Hp), ys.Perm xs → But a H H' → Sto H' a ca → H p = none → p ≠ a → p ≠ ca → H' p = some (.lst ys) → Q (.ref p) H'
theorem ok_turned (T : Txt K mg base) : FnOk P w K mg base CX0 (3 + 1) T.f_turned T.fd_turned ["store", "row"] (sp_turned K) := by
  refine T.F_turned.ok sc_turned (fun vs H Q E h => ?_) (fun cdv A outer s H vs Q E hr h => ?_)
  · obtain ⟨a, ca, r, xs, rfl, _⟩ := h
    rfl
  · obtain ⟨a, ca, r, xs, rfl, S, ra, hr0, len, q⟩ := h
    refine ⟨_, (pss_one (ps_ret (pe_lc (own := [("k", 2)]) (g := gName 2) rfl sc_turned.nd (pi_list (pe_call (ok_order T) (hr.mono (by first | decide | exact Nat.le_refl _)) (by rfl) T.g_order T.F_order.kp T.b_order .nil pass0 (pa_cons (pv 0) (pa_cons (pe_callB call_len_seq (by rfl) T.z_len PySem.boot_len (pa_cons (pv 1) pa_nil)) pa_nil)))) (blkOk_by (N := ["store", "row", "k"]) (sc := defScope s_turned) (by decide +kernel)) (fun _ _ _ _ _ => pg_name (i := 2) sc_turned.nd rfl (Or.inl rfl)) (fun _ _ _ _ _ => pts_nil) (fun _ _ _ _ _ => (pe_ix (ix_listK K rfl) (pv 1) (pv 2) (fun _ _ => rfl)))))), ?_⟩
    refine ⟨_, rfl, _, rfl, _, _, rfl, .inl (.inl (.inl hr0)), a, ca, xs.length, rfl, S, len, fun ps l H1 perm B1 S1 nl la lca hl => ?_⟩
    refine ⟨l, rfl, ⟨_, .inl (.inl hl)⟩, fun D nD => ?_⟩
    have hr1 := B1 _ _ ra hr0
    have nDa := S1.ne nD
    have rD : D ≠ r := fun e => by rw [e, hr1] at nD; cases nD
    have lD : D ≠ l := fun e => by rw [e, hl] at nD; cases nD
    refine lc_list (K := K) (a := l) (xs := natV ps) (fun i H' => But a H H' ∧ Sto H' a ca ∧ H' l = some (.lst (natV ps)) ∧ H' r = some (.lst xs) ∧ H' D = some (.lst ((ps.take i).filterMap fun j => xs[j]?)))
      ⟨B1.trans (But.new nD), S1.new nD, by rw [upd_ne (Ne.symm lD)]; exact hl, by rw [upd_ne (Ne.symm rD)]; exact hr1, upd_same⟩ (fun i H' _ h => .inl (.inl h.2.2.1)) ?_ ?_
    · rintro i v H2 hv ⟨B2, S2, hl2, hr2, hD2⟩
      unfold natV at hv
      rw [List.getElem?_map] at hv
      cases ej : ps[i]? with
      | none =>
        rw [ej] at hv
        cases hv
      | some j =>
      rw [ej] at hv
      have ev : V.int ((j : Nat) : Int) = v := Option.some.inj hv
      subst ev
      have hj : j < xs.length := List.mem_range.mp (perm.mem_iff.mp (List.mem_of_getElem? ej))
      have ex := List.getElem?_eq_getElem hj
      have pl2 : ((ps.take i).filterMap fun j => xs[j]?).length ≤ 1000 := Nat.le_trans (List.length_filterMap_le _ _) (by
        have := perm.length_eq
        rw [List.length_range] at this
        rw [List.length_take]
        omega)
      refine ⟨rfl, _, rfl, _, rfl, _, _, _, _, rfl, rfl, .inl (.inl hr2), atI_nat ex, _, hD2, Nat.lt_of_le_of_lt pl2 (by decide), ?_, S2.put nDa, ?_, ?_, ?_⟩
      · exact B1.grown nD B2 hD2
      · rw [upd_ne (Ne.symm lD)]
        exact hl2
      · rw [upd_ne (Ne.symm rD)]
        exact hr2
      · rw [upd_same, List.take_add_one, ej]
        simp only [Option.toList, List.filterMap_append, List.filterMap_cons, List.filterMap_nil, ex]
    · rintro H2 ⟨B2, S2, hl2, hr2, hD2⟩
      have e : (natV ps).length = ps.length := List.length_map ..
      rw [e, List.take_length] at hD2
      refine q _ D H2 ?_ B2 S2 (B1.free nD nDa.1) nDa.1 nDa.2 hD2
      have := perm.filterMap fun j => xs[j]?
      exact this.trans (List.Perm.of_eq (pick_all xs))

/-- a list of items of the row, all of them among it, in some order -/
def sp_repeated [Tabl] (_ : PySem.W.Frag) : Sp := fun vs H Q _ => ∃ (a ca r : Addr) (xs : List V) (n : Int), vs = [.ref a, .ref r, .int n] ∧ Sto H a ca ∧ r ≠ a ∧ H r = some (.lst xs) ∧ xs.length ≤ 500 ∧ 0 ≤ n ∧ n ≤ 400 ∧
  ∀ (ys : List V) (p : Addr) (H' : Hp), (∀ y, y ∈ ys ↔ y ∈ xs) → ys.length ≤ xs.length + n.toNat → But a H H' → Sto H' a ca → H p = none → p ≠ a → p ≠ ca → H' p = some (.lst ys) → Q (.ref p) H'
theorem ok_repeated (T : Txt K mg base) : FnOk P w K mg base CX0 (4 + 1) T.f_repeated T.fd_repeated ["store", "row", "size"] (sp_repeated K) := by
  refine T.F_repeated.ok sc_repeated (fun vs H Q E h => ?_) (fun cdv A outer s H vs Q E hr h => ?_)
  · obtain ⟨a, ca, r, xs, n, rfl, _⟩ := h
    rfl
  · obtain ⟨a, ca, r, xs, n, rfl, S, ra, hr0, len, n0, n1, q⟩ := h
    refine ⟨_, (pss_cons (ps_set (i := 3) sc_repeated.nd rfl (.inl rfl) (pe_callTy call_list_of (by rfl) T.z_list (by decide +kernel) (pa_cons (pv 1) pa_nil)))
      (C8.pss_cut (ps_if (pt_truth (pv 1) (by intro _; rfl)) (pss_one (ps_for PassesOwn.never rfl (pi_range1 (by rfl) T.z_range (pa_cons (pe_call (ok_take T) (hr.mono (by first | decide | exact Nat.le_refl _)) (by rfl) T.g_take T.F_take.kp T.b_take .nil pass0 (pa_cons (pv 0) (pa_cons (pe_op op_add (pv 2) pe_int) pa_nil))) pa_nil)) (pg_name (i := 4) sc_repeated.nd rfl (.inl rfl)) (pss_one (ps_expr (pe_bm PySem.F.plainAttrs_list PySem.F.slot_list_append PySem.F.type_list_append mt_append (pv 3) (pa_cons (pe_call (ok_pick T) (hr.mono (by first | decide | exact Nat.le_refl _)) (by rfl) T.g_pick T.F_pick.kp T.b_pick .nil pass0 (pa_cons (pv 0) (pa_cons (pv 1) pa_nil))) pa_nil)))))) pss_nil)
      (pss_one (ps_ret (pe_call (ok_turned T) (hr.mono (by first | decide | exact Nat.le_refl _)) (by rfl) T.g_turned T.F_turned.kp T.b_turned .nil pass0 (pa_cons (pv 0) (pa_cons (pv 3) pa_nil))))))), ?_⟩
    refine ⟨_, rfl, r, xs, rfl, .inl (.inl (.inl hr0)), fun p np => ?_⟩
    have npa := S.ne np
    have k1 := same_new (o := .lst xs) np
    have hp1 : (upd H p (.lst xs)) p = some (.lst xs) := upd_same
    have S1 : Sto (upd H p (.lst xs)) a ca := S.new np
    have hr1 := k1 _ _ hr0
    generalize upd H p (.lst xs) = H1 at k1 hp1 S1 hr1 ⊢
    refine ⟨fun σ' H' => ∃ (y : Option V) (more : List V), σ' = [some (.ref a), some (.ref r), some (.int n), some (.ref p), y] ∧ But a H H' ∧ Sto H' a ca ∧ H' p = some (.lst (xs ++ more)) ∧ (∀ m ∈ more, m ∈ xs) ∧ (more.length : Int) ≤ n, ?_, ?_⟩
    · cases hx : xs with
      | nil =>
        refine ⟨_, rfl, false, .inl ⟨_, .inl (.inl hr1), by rw [hx]; rfl⟩, iteF ?_⟩
        exact ⟨none, [], rfl, But.same k1, S1, by rw [hp1, hx]; rfl, fun m h => absurd h List.not_mem_nil, n0⟩
      | cons x0 xr =>
        have x1 : 0 < xs.length := by
          rw [hx, List.length_cons]
          omega
        refine ⟨_, rfl, true, .inl ⟨_, .inl (.inl hr1), by rw [hx]; rfl⟩, iteT ?_⟩
        rw [← hx]
        refine ⟨_, rfl, _, rfl, _, _, rfl, rfl, a, ca, n + 1, rfl, S1, by omega, fun d H2 d0 d1 B2 S2 => ⟨d, rfl, by omega, by omega, ?_⟩⟩
        refine for_range (lo := 0) (n := d.toNat) (fun i σ H' => ∃ (y : Option V) (more : List V), σ = [some (.ref a), some (.ref r), some (.int n), some (.ref p), y] ∧ But a H H' ∧ Sto H' a ca ∧ H' p = some (.lst (xs ++ more)) ∧ (∀ m ∈ more, m ∈ xs) ∧ more.length = i)
          ⟨none, [], rfl, (But.same k1).trans B2, S2, by rw [List.append_nil]; exact B2 _ _ npa.1 hp1, fun m h => absurd h List.not_mem_nil, rfl⟩ ?_ ?_
        · rintro i σ H' hi ⟨y, more, rfl, B3, S3, hp3, mm, lm⟩
          refine ⟨_, rfl, .inl ⟨rfl, _, .inl (.inl hp3)⟩, _, rfl, _, rfl, a, ca, S3, .inr ⟨r, xs, rfl, ra, B3 _ _ ra hr0, x1, by omega, fun x H4 mx B4 S4 => ?_⟩⟩
          have hp4 := B4 _ _ npa.1 hp3
          refine ⟨p, _, _, rfl, rfl, hp4, by rw [List.length_append]; exact Nat.lt_of_lt_of_le (by omega : xs.length + more.length < 1000000) (by decide), _, more ++ [x], rfl, ?_, S4.put ⟨npa.1, npa.2⟩, ?_, ?_, by rw [List.length_append, lm]; rfl⟩
          · exact But.grown (.refl H) np (B3.trans B4) hp4
          · rw [upd_same, List.append_assoc]
          · intro m hm
            rcases List.mem_append.mp hm with h | h
            · exact mm m h
            · rw [List.mem_singleton.mp h]
              exact mx
        · rintro σ H' ⟨y, more, rfl, B3, S3, hp3, mm, lm⟩
          exact ⟨y, more, rfl, B3, S3, hp3, mm, by omega⟩
    · rintro σ' H2 ⟨y, more, rfl, B2, S2, hp2, mm, lm⟩
      refine ⟨_, rfl, _, rfl, a, ca, p, _, rfl, S2, npa.1, hp2, by rw [List.length_append]; omega, fun ys p2 H3 pm B3 S3 np2 p2a p2c hp3 => ?_⟩
      refine q ys p2 H3 (fun y => ?_) (by rw [pm.length_eq, List.length_append]; omega) (B2.trans B3) S3 (B2.free np2 p2a) p2a p2c hp3
      rw [pm.mem_iff, List.mem_append]
      exact ⟨fun h => h.elim id (mm y), .inl⟩

def sp_unlike_word (_ : PySem.W.Frag) : Sp := fun vs H Q _ => ∃ (a ca : Addr) (z x : Str), vs = [.ref a, .str z, .str x] ∧ Sto H a ca ∧ 0 < z.length ∧ z.length ≤ 1000000 ∧ (cs z).Nodup ∧ x.length ≤ 100000 ∧ Over z x ∧
  ∀ (v : Str) (H' : Hp), Over z v → v.length ≤ x.length + 1 → But a H H' → Sto H' a ca → Q (.str v) H'
theorem ok_unlike_word (T : Txt K mg base) : FnOk P w K mg base CX0 (3 + 1) T.f_unlike_word T.fd_unlike_word ["store", "letters", "word"] (sp_unlike_word K) := by
  refine T.F_unlike_word.ok sc_unlike_word (fun vs H Q E h => ?_) (fun cdv A outer s H vs Q E hr h => ?_)
  · obtain ⟨a, ca, z, x, rfl, _⟩ := h
    rfl
  · obtain ⟨a, ca, z, x, rfl, S, z0, z1, zn, xl, ox, q⟩ := h
    refine ⟨_, (pss_cons (ps_set (i := 3) sc_unlike_word.nd rfl (.inl rfl) (pe_call (ok_take T) (hr.mono (by first | decide | exact Nat.le_refl _)) (by rfl) T.g_take T.F_take.kp T.b_take .nil pass0 (pa_cons (pv 0) (pa_cons pe_int pa_nil))))
      (pss_cons (ps_set (i := 4) sc_unlike_word.nd rfl (.inr rfl) (pe_call (ok_take T) (hr.mono (by first | decide | exact Nat.le_refl _)) (by rfl) T.g_take T.F_take.kp T.b_take .nil pass0 (pa_cons (pv 0) (pa_cons (pe_op op_add (pe_callB call_len_str (by rfl) T.z_len PySem.boot_len (pa_cons (pv 2) pa_nil)) pe_int) pa_nil))))
      (pss_cons (ps_if (PW.pt (pw_or (pt_cmpR op_eq (pv 3) pe_int (nomark _)) (pw_or (pt_cmpR op_eq (pv 2) pe_str (nomark _)) (pw_or1 (PW.pt (pw_and (pt_cmpR op_eq (pv 3) pe_int (nomark _)) (pw_and1 (pt_cmpR op_eq (pe_callB call_len_str (by rfl) T.z_len PySem.boot_len (pa_cons (pv 1) pa_nil)) pe_int (nomark _))))))))) (pss_one (ps_ret (pe_op op_add_str (pe_op op_add_str (pe_slice sl_str (pv 2) po_none (po_some (pv 4))) (pe_call (ok_pick T) (hr.mono (by first | decide | exact Nat.le_refl _)) (by rfl) T.g_pick T.F_pick.kp T.b_pick .nil pass0 (pa_cons (pv 0) (pa_cons (pv 1) pa_nil)))) (pe_slice sl_str (pv 2) (po_some (pv 4)) po_none)))) pss_nil)
      (pss_cons (ps_set (i := 4) sc_unlike_word.nd rfl (.inr rfl) (pe_call (ok_take T) (hr.mono (by first | decide | exact Nat.le_refl _)) (by rfl) T.g_take T.F_take.kp T.b_take .nil pass0 (pa_cons (pv 0) (pa_cons (pe_callB call_len_str (by rfl) T.z_len PySem.boot_len (pa_cons (pv 2) pa_nil)) pa_nil))))
      (pss_cons (ps_if (pt_cmpR op_eq (pv 3) pe_int (nomark _)) (pss_one (ps_ret (pe_op op_add_str (pe_slice sl_str (pv 2) po_none (po_some (pv 4))) (pe_slice sl_str (pv 2) (po_some (pe_op op_add (pv 4) pe_int)) po_none)))) pss_nil)
      (pss_one (ps_ret (pe_op op_add_str (pe_op op_add_str (pe_slice sl_str (pv 2) po_none (po_some (pv 4))) (pe_call (ok_pick T) (hr.mono (by first | decide | exact Nat.le_refl _)) (by rfl) T.g_pick T.F_pick.kp T.b_pick .nil pass0 (pa_cons (pv 0) (pa_cons (pe_lc (own := [("x", 5)]) (g := gName 5) rfl sc_unlike_word.nd (pi_str (pv 1)) (blkOk_by (N := ["store", "letters", "word", "draw", "at", "x"]) (sc := defScope s_unlike_word) (by decide +kernel)) (fun _ _ _ _ _ => pg_name (i := 5) sc_unlike_word.nd rfl (Or.inl rfl)) (fun _ _ _ _ _ => (pts_one (pt_cmpR op_ne (pv 5) (pe_ix ix_str (pv 2) (pv 4) (fun _ _ => rfl)) (nomark _)))) (fun _ _ _ _ _ => (pv 5))) pa_nil)))) (pe_slice sl_str (pv 2) (po_some (pe_op op_add (pv 4) pe_int)) po_none))))))))), ?_⟩
    have sx : x.length ≤ sizeLine := small_text (by omega)
    refine ⟨_, rfl, a, ca, 3, rfl, S, by decide, fun d H1 d0 d1 B1 S1 => ?_⟩
    refine ⟨_, rfl, _, rfl, x, rfl, sx, _, _, rfl, rfl, a, ca, _, rfl, S1, by show (x.length : Int) + 1 < 1073741824; omega, fun e H2 e0 e1 B2 S2 => ?_⟩
    have e1' : e < (x.length : Int) + 1 ∨ e = 0 := e1
    obtain ⟨j, rfl⟩ := Int.eq_ofNat_of_zero_le e0
    have B12 := B1.trans B2
    have lj : (cutS x none (some (j : Int))).length = j := by
      rw [← cs_len, cs_upto, List.length_take, cs_len]
      omega
    have ld : (cutS x (some (j : Int)) none).length = x.length - j := by
      rw [← cs_len, cs_from, List.length_drop, cs_len]
    have lt3 : d < 3 := by
      have : d < 3 ∨ d = 0 := d1
      omega
    refine ⟨_, rfl, rfl, _, rfl, ite2 (fun g1 => ?A1) (fun g1 => ⟨_, rfl, rfl, _, rfl, ite2 (fun g2 => ?A2) (fun g2 => ⟨_, rfl, rfl, _, rfl, ite2 (fun g3 => ⟨_, rfl, z, rfl, small_text z1, rfl, _, rfl, ite2 (fun g4 => ?A3) (fun g4 => ?B1)⟩) (fun g3 => ?B2)⟩)⟩)⟩
    case A1 | A2 | A3 =>
      refine ⟨_, rfl, _, rfl, _, rfl, x, rfl, sx, _, rfl, _, rfl, a, ca, S2, .inl ⟨z, rfl, z0, z1, fun c H3 hc B3 S3 => ?_⟩⟩
      refine ⟨_, _, rfl, rfl, small_text (by rw [lj]; show j + 1 ≤ 1000000; omega), _, rfl, _, rfl, _, rfl, x, rfl, sx, _, _, rfl, rfl, small_text ?_, ?_⟩
      · rw [length_app, lj, ld]
        show j + 1 + (x.length - j) ≤ 1000000
        omega
      · refine q _ _ ((ox.cut.app (Over.one hc)).app ox.cut) ?_ (B12.trans B3) S3
        rw [length_app, length_app, lj, ld]
        show j + 1 + (x.length - j) ≤ x.length + 1
        omega
    case B1 | B2 =>
      have hx0 : 0 < x.length := by
        rcases Nat.eq_zero_or_pos x.length with e | e
        · exfalso
          refine g2 (decide_eq_true ?_)
          have : cs x = [] := List.length_eq_zero_iff.mp (by rw [cs_len]; exact e)
          exact congrArg V.str (cs_ext (this.trans cs_empty.symm))
        · exact e
      refine ⟨_, rfl, _, rfl, x, rfl, sx, a, ca, _, rfl, S2, by show (x.length : Int) < 1073741824; omega, fun k H3 k0 k1 B3 S3 => ?_⟩
      have k1' : k < (x.length : Int) ∨ k = 0 := k1
      obtain ⟨i, rfl⟩ := Int.eq_ofNat_of_zero_le k0
      have hi : i < x.length := by omega
      have li : (cutS x none (some (i : Int))).length = i := by
        rw [← cs_len, cs_upto, List.length_take, cs_len]
        omega
      have le : (cutS x (some ((i : Int) + 1)) none).length = x.length - (i + 1) := by
        rw [← cs_len, show ((i : Int) + 1) = ((i + 1 : Nat) : Int) from rfl, cs_from, List.length_drop, cs_len]
      have B123 := B12.trans B3
      refine ⟨_, rfl, rfl, _, rfl, ite2 (fun g5 => ?_) (fun g5 => ?_)⟩
      · refine ⟨_, rfl, _, rfl, _, rfl, x, rfl, sx, _, rfl, _, rfl, _, _, rfl, rfl, _, rfl, x, rfl, sx, _, _, rfl, rfl, small_text (by rw [li, le]; omega), ?_⟩
        refine q _ _ (ox.cut.app ox.cut) ?_ B123 S3
        rw [length_app, li, le]
        omega
      · have d01 : d = 1 := by
          have n0 : d ≠ 0 := fun e => g1 (decide_eq_true (congrArg V.int e))
          have n2 : d ≠ 2 := fun e => g5 (decide_eq_true (congrArg V.int e))
          omega
        try exact absurd (decide_eq_true (congrArg V.int d01)) g3
        all_goals (
          have z2 : 2 ≤ z.length := by
            have : z.length ≠ 1 := fun e => g4 (decide_eq_true (congrArg V.int (by rw [e]; rfl)))
            omega
          have hic : i < (cs x).length := by rw [cs_len]; exact hi
          have hat : atI (cs x) (i : Int) = some (cs x)[i] := atI_nat (List.getElem?_eq_getElem hic)
          refine ⟨_, rfl, _, rfl, _, rfl, x, rfl, sx, _, rfl, _, rfl, z, rfl, fun D hD => ?_⟩
          have nD := S3.ne hD
          refine lc_it walk_str (fun n H' => H' D = some (.lst ((((cs z).take n).filter (fun c => !decide (c = (cs x)[i]))).map fun c => V.str ⟨#[c]⟩)) ∧ But a H H' ∧ Sto H' a ca) ⟨by rw [upd_same, List.take_zero]; rfl, B123.trans (But.new hD), S3.new hD⟩ (fun _ _ _ _ => trivial) ?_ ?_
          · rintro n v H4 H5 hn ⟨h1, h2, h3⟩ ⟨rfl, c, hc, rfl⟩
            have hc' : (cs z)[n]? = some c := by
              show z.cps.toList[n]? = some c
              rw [Array.getElem?_toList]
              exact hc
            refine ⟨rfl, _, rfl, _, rfl, _, rfl, x, _, _, rfl, rfl, sx, hat, rfl, _, rfl, ite2 (fun g6 => ?_) (fun g6 => ?_)⟩
            · refine ⟨_, rfl, _, h1, ?_, ?_, ?_, ?_⟩
              · rw [List.length_map]
                refine Nat.lt_of_le_of_lt (List.length_filter_le _ _) (Nat.lt_of_le_of_lt (m := 1000000) ?_ (by decide))
                rw [List.length_take, cs_len]
                omega
              · rw [upd_same, List.take_add_one, hc', List.filter_append, List.map_append]
                have nc : c ≠ (cs x)[i] := fun e => by
                  rw [e] at g6
                  simp at g6
                simp [nc]
              · exact B123.grown hD h2 (by assumption)
              · exact h3.put nD
            · have ec : c = (cs x)[i] := by
                by_cases e : c = (cs x)[i]
                · exact e
                · exfalso
                  apply g6
                  simp [e]
              refine ⟨?_, h2, h3⟩
              rw [h1, List.take_add_one, hc', List.filter_append]
              simp [ec]
          · rintro H4 ⟨h1, h2, h3⟩
            have ez : (cs z).take z.cps.size = cs z := List.take_of_length_le (by rw [cs_len]; exact Nat.le_refl _)
            rw [ez] at h1
            have some_c : ∃ c ∈ cs z, c ≠ (cs x)[i] := by
              have l2 : 2 ≤ (cs z).length := by rw [cs_len]; exact z2
              match hz : cs z, l2, zn with
              | c1 :: c2 :: r, _, zn =>
                by_cases e : c1 = (cs x)[i]
                · refine ⟨c2, List.mem_cons_of_mem _ List.mem_cons_self, fun e2 => ?_⟩
                  have := (List.nodup_cons.mp zn).1
                  exact this (by rw [e, ← e2]; exact List.mem_cons_self)
                · exact ⟨c1, List.mem_cons_self, e⟩
            obtain ⟨c0, hc0, n0⟩ := some_c
            refine ⟨a, ca, h3, .inr ⟨D, _, rfl, nD.1, h1, ?_, ?_, fun v H5 hv B5 S5 => ?_⟩⟩
            · rw [List.length_map]
              exact List.length_pos_of_mem (List.mem_filter.mpr ⟨hc0, by simp [n0]⟩)
            · rw [List.length_map]
              refine Nat.le_trans (List.length_filter_le _ _) ?_
              rw [cs_len]
              omega
            · obtain ⟨c, hc, rfl⟩ := List.mem_map.mp hv
              have hcz := (List.mem_filter.mp hc).1
              refine ⟨_, _, rfl, rfl, small_text (by rw [li]; show i + 1 ≤ 1000000; omega), _, rfl, _, rfl, _, _, rfl, rfl, _, rfl, x, rfl, sx, _, _, rfl, rfl, small_text ?_, ?_⟩
              · rw [length_app, li, le]
                show i + 1 + (x.length - (i + 1)) ≤ 1000000
                omega
              · refine q _ _ ((ox.cut.app (Over.one hcz)).app ox.cut) ?_ (h2.trans B5) S5
                rw [length_app, length_app, li, le]
                show i + 1 + (x.length - (i + 1)) ≤ x.length + 1
                omega)

def sp_machine [Tabl] (_ : PySem.W.Frag) : Sp := fun vs H Q _ => ∃ (a ca : Addr) (r z : Str) (lim : Int), vs = [.ref a, .str r, .str z, .int lim] ∧ Sto H a ca ∧ IsAlpha r ∧ IsAlpha z ∧ 1 ≤ lim ∧ lim ≤ 64 ∧
  ∀ (t b c e : Addr) (n : Int) (H' : Hp), 0 ≤ n → n ≤ lim → RowN pimg (GoodP z n) a ca H H' b 8 → RowN aimg (GoodA r z n) a ca H H' c 140 → RowN pimg (GoodP z n) a ca H H' e 8 → b ≠ c → b ≠ e → c ≠ e → But a H H' → Sto H' a ca → H t = none → t ≠ a → t ≠ ca → H' t = some (.tup [.str r, .str z, .int n, .ref b, .ref c, .ref e]) → Q (.ref t) H'
theorem ok_machine (T : Txt K mg base) : FnOk P w K mg base CX0 (5 + 1) T.f_machine T.fd_machine ["store", "read", "write", "limit"] (sp_machine K) := by
  refine T.F_machine.ok sc_machine (fun vs H Q E h => ?_) (fun cdv A outer s H vs Q E hr h => ?_)
  · obtain ⟨a, ca, r, z, lim, rfl, _⟩ := h
    rfl
  · obtain ⟨a, ca, r, z, lim, rfl, S, ar, az, l1, l64, q⟩ := h
    refine ⟨_, (pss_cons (ps_if (pt_cmpR op_eq (pe_call (ok_take T) (hr.mono (by first | decide | exact Nat.le_refl _)) (by rfl) T.g_take T.F_take.kp T.b_take .nil pass0 (pa_cons (pv 0) (pa_cons pe_int pa_nil))) pe_int (nomark _)) (pss_one (ps_ret (pe_tup (pa_cons (pv 1) (pa_cons (pv 2) (pa_cons pe_int (pa_cons (pe_lst pa_nil) (pa_cons (pe_lst pa_nil) (pa_cons (pe_lst pa_nil) pa_nil))))))))) pss_nil)
      (pss_cons (ps_set (i := 4) sc_machine.nd rfl (.inr rfl) (pe_call (ok_between T) (hr.mono (by first | decide | exact Nat.le_refl _)) (by rfl) T.g_between T.F_between.kp T.b_between .nil pass0 (pa_cons (pv 0) (pa_cons pe_int (pa_cons (pv 3) pa_nil)))))
      (pss_cons (ps_set (i := 5) sc_machine.nd rfl (.inr rfl) (pe_call (ok_pick T) (hr.mono (by first | decide | exact Nat.le_refl _)) (by rfl) T.g_pick T.F_pick.kp T.b_pick .nil pass0 (pa_cons (pv 0) (pa_cons (pe_lst (pa_cons pe_int (pa_cons pe_int (pa_cons pe_int (pa_cons pe_int (pa_cons pe_int (pa_cons pe_int pa_nil))))))) pa_nil))))
      (pss_cons (ps_set (i := 6) sc_machine.nd rfl (.inl rfl) (pe_lst (pa_cons (pe_tup (pa_cons pe_int (pa_cons (pe_call (ok_word T) (hr.mono (by first | decide | exact Nat.le_refl _)) (by rfl) T.g_word T.F_word.kp T.b_word .nil pass0 (pa_cons (pv 0) (pa_cons (pv 2) (pa_cons (pv 5) pa_nil)))) pa_nil))) pa_nil)))
      (C8.pss_cut (ps_for PassesOwn.never rfl (pi_range1 (by rfl) T.z_range (pa_cons (pe_call (ok_pick T) (hr.mono (by first | decide | exact Nat.le_refl _)) (by rfl) T.g_pick T.F_pick.kp T.b_pick .nil pass0 (pa_cons (pv 0) (pa_cons (pe_lst (pa_cons pe_int (pa_cons pe_int (pa_cons pe_int (pa_cons pe_int (pa_cons pe_int (pa_cons pe_int pa_nil))))))) pa_nil))) pa_nil)) (pg_name (i := 7) sc_machine.nd rfl (.inl rfl)) (pss_one (ps_expr (pe_bm PySem.F.plainAttrs_list PySem.F.slot_list_append PySem.F.type_list_append mt_append (pv 6) (pa_cons (pe_tup (pa_cons (pe_call (ok_take T) (hr.mono (by first | decide | exact Nat.le_refl _)) (by rfl) T.g_take T.F_take.kp T.b_take .nil pass0 (pa_cons (pv 0) (pa_cons (pv 4) pa_nil))) (pa_cons (pe_call (ok_word T) (hr.mono (by first | decide | exact Nat.le_refl _)) (by rfl) T.g_word T.F_word.kp T.b_word .nil pass0 (pa_cons (pv 0) (pa_cons (pv 2) (pa_cons (pv 5) pa_nil)))) pa_nil))) pa_nil)))))
      (pss_cons (ps_setLc (i := 8) (own := [("k", 7)]) (g := gName 7) rfl sc_machine.nd rfl rfl (sw_true rfl rfl rfl (by decide +kernel)) (pi_range1 (by rfl) T.z_range (pa_cons (pe_call (ok_between T) (hr.mono (by first | decide | exact Nat.le_refl _)) (by rfl) T.g_between T.F_between.kp T.b_between .nil pass0 (pa_cons (pv 0) (pa_cons pe_int (pa_cons (pe_op op_add (pv 4) pe_int) pa_nil)))) pa_nil)) (blkOk_by (N := ["store", "read", "write", "limit", "size", "longest", "heads", "k", "links", "link", "stops", "draw", "rows", "row"]) (sc := defScope s_machine) (by decide +kernel)) (fun _ _ _ _ _ => pg_name (i := 7) sc_machine.nd rfl (Or.inl rfl)) (fun _ _ _ _ _ => pts_nil) (fun _ _ _ _ _ => (pe_call (ok_arc T) (hr.mono (by first | decide | exact Nat.le_refl _)) (by rfl) T.g_arc T.F_arc.kp T.b_arc .nil pass0 (pa_cons (pv 0) (pa_cons (pv 1) (pa_cons (pv 2) (pa_cons (pv 4) (pa_cons (pv 5) pa_nil))))))))
      (C8.pss_cut (ps_if (pt_cmpR op_eq (pe_call (ok_take T) (hr.mono (by first | decide | exact Nat.le_refl _)) (by rfl) T.g_take T.F_take.kp T.b_take .nil pass0 (pa_cons (pv 0) (pa_cons pe_int pa_nil))) pe_int (nomark _)) (pss_one (ps_for PassesOwn.never rfl (pi_range1 (by rfl) T.z_range (pa_cons (pe_op op_sub (pv 4) pe_int) pa_nil)) (pg_name (i := 7) sc_machine.nd rfl (.inl rfl)) (pss_one (ps_expr (pe_bm PySem.F.plainAttrs_list PySem.F.slot_list_append PySem.F.type_list_append mt_append (pv 8) (pa_cons (pe_tup (pa_cons (pv 7) (pa_cons (pe_call (ok_pick T) (hr.mono (by first | decide | exact Nat.le_refl _)) (by rfl) T.g_pick T.F_pick.kp T.b_pick .nil pass0 (pa_cons (pv 0) (pa_cons (pv 1) pa_nil))) (pa_cons (pe_call (ok_word T) (hr.mono (by first | decide | exact Nat.le_refl _)) (by rfl) T.g_word T.F_word.kp T.b_word .nil pass0 (pa_cons (pv 0) (pa_cons (pv 2) (pa_cons (pv 5) pa_nil)))) (pa_cons (pe_op op_add (pv 7) pe_int) pa_nil))))) pa_nil)))))) pss_nil)
      (C8.pss_cut (ps_if (PW.pt (pw_and (pt_truth (pv 8) (by intro _; rfl)) (pw_and1 (pt_cmpR op_eq (pe_call (ok_take T) (hr.mono (by first | decide | exact Nat.le_refl _)) (by rfl) T.g_take T.F_take.kp T.b_take .nil pass0 (pa_cons (pv 0) (pa_cons pe_int pa_nil))) pe_int (nomark _))))) (pss_cons (ps_set (i := 9) sc_machine.nd rfl (.inl rfl) (pe_call (ok_pick T) (hr.mono (by first | decide | exact Nat.le_refl _)) (by rfl) T.g_pick T.F_pick.kp T.b_pick .nil pass0 (pa_cons (pv 0) (pa_cons (pv 8) pa_nil))))
      (pss_one (ps_expr (pe_bm PySem.F.plainAttrs_list PySem.F.slot_list_append PySem.F.type_list_append mt_append (pv 8) (pa_cons (pe_tup (pa_cons (pe_ix ix_tup (pv 9) pe_int (fun _ _ => rfl)) (pa_cons (pe_ix ix_tup (pv 9) pe_int (fun _ _ => rfl)) (pa_cons (pe_call (ok_unlike_word T) (hr.mono (by first | decide | exact Nat.le_refl _)) (by rfl) T.g_unlike_word T.F_unlike_word.kp T.b_unlike_word .nil pass0 (pa_cons (pv 0) (pa_cons (pv 2) (pa_cons (pe_ix ix_tup (pv 9) pe_int (fun _ _ => rfl)) pa_nil)))) (pa_cons (pe_ix ix_tup (pv 9) pe_int (fun _ _ => rfl)) pa_nil))))) pa_nil))))) pss_nil)
      (pss_cons (ps_set (i := 10) sc_machine.nd rfl (.inl rfl) (pe_lst (pa_cons (pe_tup (pa_cons (pe_op op_sub (pv 4) pe_int) (pa_cons (pe_call (ok_word T) (hr.mono (by first | decide | exact Nat.le_refl _)) (by rfl) T.g_word T.F_word.kp T.b_word .nil pass0 (pa_cons (pv 0) (pa_cons (pv 2) (pa_cons (pv 5) pa_nil)))) pa_nil))) pa_nil)))
      (C8.pss_cut (ps_for PassesOwn.never rfl (pi_range1 (by rfl) T.z_range (pa_cons (pe_call (ok_pick T) (hr.mono (by first | decide | exact Nat.le_refl _)) (by rfl) T.g_pick T.F_pick.kp T.b_pick .nil pass0 (pa_cons (pv 0) (pa_cons (pe_lst (pa_cons pe_int (pa_cons pe_int (pa_cons pe_int (pa_cons pe_int (pa_cons pe_int (pa_cons pe_int pa_nil))))))) pa_nil))) pa_nil)) (pg_name (i := 7) sc_machine.nd rfl (.inl rfl)) (pss_one (ps_expr (pe_bm PySem.F.plainAttrs_list PySem.F.slot_list_append PySem.F.type_list_append mt_append (pv 10) (pa_cons (pe_tup (pa_cons (pe_call (ok_take T) (hr.mono (by first | decide | exact Nat.le_refl _)) (by rfl) T.g_take T.F_take.kp T.b_take .nil pass0 (pa_cons (pv 0) (pa_cons (pv 4) pa_nil))) (pa_cons (pe_call (ok_word T) (hr.mono (by first | decide | exact Nat.le_refl _)) (by rfl) T.g_word T.F_word.kp T.b_word .nil pass0 (pa_cons (pv 0) (pa_cons (pv 2) (pa_cons (pv 5) pa_nil)))) pa_nil))) pa_nil)))))
      (pss_cons (ps_set (i := 11) sc_machine.nd rfl (.inl rfl) (pe_call (ok_take T) (hr.mono (by first | decide | exact Nat.le_refl _)) (by rfl) T.g_take T.F_take.kp T.b_take .nil pass0 (pa_cons (pv 0) (pa_cons pe_int pa_nil))))
      (C8.pss_cut (ps_if (pt_cmpR op_eq (pv 11) pe_int (nomark _)) (pss_one (ps_set (i := 6) sc_machine.nd rfl (.inl rfl) (pe_lst pa_nil))) pss_nil)
      (C8.pss_cut (ps_if (pt_cmpR op_eq (pv 11) pe_int (nomark _)) (pss_one (ps_set (i := 8) sc_machine.nd rfl (.inl rfl) (pe_lst pa_nil))) pss_nil)
      (C8.pss_cut (ps_if (pt_cmpR op_eq (pv 11) pe_int (nomark _)) (pss_one (ps_set (i := 10) sc_machine.nd rfl (.inl rfl) (pe_lst pa_nil))) pss_nil)
      (pss_cons (ps_setLc (i := 12) (own := [("row", 13)]) (g := gName 13) rfl sc_machine.nd rfl rfl (sw_true rfl rfl rfl (by decide +kernel)) (pi_list (pe_lst (pa_cons (pv 6) (pa_cons (pv 8) (pa_cons (pv 10) pa_nil))))) (blkOk_by (N := ["store", "read", "write", "limit", "size", "longest", "heads", "k", "links", "link", "stops", "draw", "rows", "row"]) (sc := defScope s_machine) (by decide +kernel)) (fun _ _ _ _ _ => pg_name (i := 13) sc_machine.nd rfl (Or.inl rfl)) (fun _ _ _ _ _ => pts_nil) (fun _ _ _ _ _ => (pe_call (ok_repeated T) (hr.mono (by first | decide | exact Nat.le_refl _)) (by rfl) T.g_repeated T.F_repeated.kp T.b_repeated .nil pass0 (pa_cons (pv 0) (pa_cons (pv 13) (pa_cons pe_int pa_nil))))))
      (pss_one (ps_ret (pe_tup (pa_cons (pv 1) (pa_cons (pv 2) (pa_cons (pv 4) (pa_cons (pe_ix ix_list (pv 12) pe_int (fun _ _ => rfl)) (pa_cons (pe_ix ix_list (pv 12) pe_int (fun _ _ => rfl)) (pa_cons (pe_ix ix_list (pv 12) pe_int (fun _ _ => rfl)) pa_nil)))))))))))))))))))))))), ?_⟩
    refine ⟨_, rfl, a, ca, 16, rfl, S, by decide, fun d H1 _ _ B1 S1 => ⟨rfl, _, rfl, ite2 (fun _ => ?_) (fun _ => ?_)⟩⟩
    · refine ⟨_, rfl, _, rfl, by show 0 ≤ sizeLine; decide, fun b nb => ?_⟩
      have k1 := same_new (o := .lst []) nb
      have hb : (upd H1 b (.lst [])) b = some (.lst []) := upd_same
      have S2 := S1.new (o := .lst []) nb
      generalize upd H1 b (.lst []) = H2 at k1 hb S2 ⊢
      refine ⟨by show 0 ≤ sizeLine; decide, fun c nc => ?_⟩
      have k2 := same_new (o := .lst []) nc
      have hc : (upd H2 c (.lst [])) c = some (.lst []) := upd_same
      have S3 := S2.new (o := .lst []) nc
      generalize upd H2 c (.lst []) = H3 at k2 hc S3 ⊢
      refine ⟨by show 0 ≤ sizeLine; decide, fun e ne => ?_⟩
      have k3 := same_new (o := .lst []) ne
      have he : (upd H3 e (.lst [])) e = some (.lst []) := upd_same
      have S4 := S3.new (o := .lst []) ne
      generalize upd H3 e (.lst []) = H4 at k3 he S4 ⊢
      refine ⟨by show 6 ≤ sizeLine; decide, fun t nt => ?_⟩
      have k4 := same_new (o := .tup [.str r, .str z, .int 0, .ref b, .ref c, .ref e]) nt
      have B4 := ((B1.trans (But.same k1)).trans (But.same k2)).trans (But.same k3)
      have xb := S1.ne nb
      have xc := S2.ne nc
      have xe := S3.ne ne
      have xt := S4.ne nt
      have fb : RowN pimg (GoodP z 0) a ca H H2 b 0 := RowN.nil (B1.free nb xb.1) xb.1 xb.2 hb
      have fc : RowN aimg (GoodA r z 0) a ca H H3 c 0 := RowN.nil ((B1.trans (But.same k1)).free nc xc.1) xc.1 xc.2 hc
      have fe : RowN pimg (GoodP z 0) a ca H H4 e 0 := RowN.nil (((B1.trans (But.same k1)).trans (But.same k2)).free ne xe.1) xe.1 xe.2 he
      refine q t b c e 0 _ (Int.le_refl _) (by omega) ((((fb.same k2).same k3).same k4).le (by decide)) (((fc.same k3).same k4).le (by decide)) ((fe.same k4).le (by decide)) (fun z => ?_) (fun z => ?_) (fun z => ?_) (B4.trans (But.new nt)) (S4.new nt) (B4.free nt xt.1) xt.1 xt.2 upd_same
      · rw [z, nc] at hb; cases hb
      · have := k2 _ _ hb
        rw [z, ne] at this; cases this
      · rw [z, ne] at hc; cases hc
    refine ⟨_, rfl, _, rfl, a, ca, 1, lim, rfl, S1, by omega, fun n H2 n1 n2 B2 S2 => ?_⟩
    have nl : n ≤ lim := by omega
    have B2 := B1.trans B2
    clear S1 B1
    -- how long words are
    refine ⟨_, rfl, by show 6 ≤ sizeLine; decide, fun p np => ⟨a, ca, S2.new np, .inr ⟨p, _, rfl, (S2.ne np).1, upd_same, by show 0 < 6; decide, by show 6 ≤ 1000000; decide, fun x H3 mx B3 S3 => ?_⟩⟩⟩
    obtain ⟨lo, rfl, lo0, lo3⟩ : ∃ lo : Int, x = .int lo ∧ 0 ≤ lo ∧ lo ≤ 3 := by
      simp only [List.mem_cons, List.not_mem_nil, or_false] at mx
      rcases mx with h | h | h | h | h | h <;> exact ⟨_, h, by decide, by decide⟩
    have B3 := (B2.trans (But.new np)).trans B3
    clear S2 B2 mx np
    have wordOk : ∀ {v : Str}, (v.length : Int) ≤ (if lo < 0 then 0 else lo) → (v.length : Int) ≤ 3 := fun {v} h => by
      rw [if_neg (by omega)] at h
      omega
    have goodP : ∀ {i : Int} {v : Str}, 0 ≤ i → i ≤ n - 1 → Over z v → (v.length : Int) ≤ 3 → GoodP z n (i, v) := fun {i v} h1 h2 h3 h4 => ⟨h1, h2, h3, by show (v.length : Int) ≤ 400; omega⟩
    -- heads
    refine ⟨_, rfl, _, rfl, _, rfl, a, ca, z, lo, rfl, S3, az.len1, az.small, by omega, fun v H4 ov lv B4 S4 => ?_⟩
    have lv := wordOk lv
    refine ⟨by show 2 ≤ sizeLine; decide, fun t nt => ?_⟩
    have B4 := B3.trans B4
    have k5 := same_new (o := .tup [.int 0, .str v]) nt
    have ht : (upd H4 t (.tup [.int 0, .str v])) t = some (.tup (pimg (0, v))) := upd_same
    have S5 := S4.new (o := .tup [.int 0, .str v]) nt
    have B5 := B4.trans (But.same k5)
    generalize upd H4 t (.tup [.int 0, .str v]) = H5 at k5 ht S5 B5 ⊢
    refine ⟨by show 1 ≤ sizeLine; decide, fun hd nh => ?_⟩
    have k6 := same_new (o := .lst [.ref t]) nh
    have xh := S5.ne nh
    have R6 : RowN pimg (GoodP z n) a ca H (upd H5 hd (.lst [.ref t])) hd 1 := ⟨[.ref t], [(0, v)], B5.free nh xh.1, xh.1, xh.2, upd_same, .cons ⟨t, rfl, k6 _ _ ht⟩ .nil, fun e m => (by rw [List.mem_singleton.mp m]; exact goodP (Int.le_refl _) (by omega) ov lv), Nat.le_refl _⟩
    have S6 := S5.new (o := .lst [.ref t]) nh
    have B6 := B5.trans (But.same k6)
    generalize upd H5 hd (.lst [.ref t]) = H6 at S6 B6 R6 ⊢
    clear S3 B3 S4 B4 S5 B5 k5 k6 ht nt
    refine ⟨fun σ' H' => (∃ y : Option V, σ' = [some (.ref a), some (.str r), some (.str z), some (.int lim), some (.int n), some (.int lo), some (.ref hd), y, none, none, none, none, none, none]) ∧ But a H H' ∧ Sto H' a ca ∧ RowN pimg (GoodP z n) a ca H H' hd 6, ?_, ?_⟩
    · refine ⟨_, rfl, by show 6 ≤ sizeLine; decide, fun p np => ⟨a, ca, S6.new np, .inr ⟨p, _, rfl, (S6.ne np).1, upd_same, by show 0 < 6; decide, by show 6 ≤ 1000000; decide, fun x H7 mx B7 S7 => ?_⟩⟩⟩
      obtain ⟨m, rfl, m0, m2⟩ : ∃ m : Int, x = .int m ∧ 0 ≤ m ∧ m ≤ 2 := by
        simp only [List.mem_cons, List.not_mem_nil, or_false] at mx
        rcases mx with h | h | h | h | h | h <;> exact ⟨_, h, by decide, by decide⟩
      have R7 := (R6.same (same_new np)).but B7 (S6.new np)
      have B7 := (B6.trans (But.new np)).trans B7
      refine ⟨m, rfl, by omega, by omega, ?_⟩
      refine for_range (lo := 0) (n := m.toNat) (fun i σ H' => (∃ y : Option V, σ = [some (.ref a), some (.str r), some (.str z), some (.int lim), some (.int n), some (.int lo), some (.ref hd), y, none, none, none, none, none, none]) ∧ But a H H' ∧ Sto H' a ca ∧ RowN pimg (GoodP z n) a ca H H' hd (1 + i)) ⟨⟨_, rfl⟩, B7, S7, R7⟩ ?_ ?_
      · rintro i σ H' hi ⟨⟨y, rfl⟩, B8, S8, R8⟩
        have hi2 : i < 2 := by
          have : i < m.toNat := hi
          omega
        obtain ⟨xs, h8, lt8, ha, _⟩ := R8.lt (by omega)
        refine ⟨_, rfl, .inl ⟨rfl, _, .inl (.inl h8)⟩, _, rfl, _, rfl, a, ca, n, rfl, S8, by omega, fun j H9 j0 j1 B9 S9 => ⟨_, rfl, _, rfl, _, rfl, a, ca, z, lo, rfl, S9, az.len1, az.small, by omega, fun v H10 ov lv B10 S10 => ⟨by show 2 ≤ sizeLine; decide, fun t nt => ?_⟩⟩⟩
        have B11 := (B9.trans B10).trans (But.new (o := .tup [.int j, .str v]) nt)
        have R11 := R8.but B11 S8
        have h11 := B11 _ _ ha h8
        have ht : (upd H10 t (.tup [.int j, .str v])) t = some (.tup (pimg (j, v))) := upd_same
        have S11 := S10.new (o := .tup [.int j, .str v]) nt
        generalize upd H10 t (.tup [.int j, .str v]) = H11 at B11 R11 h11 ht S11 ⊢
        obtain ⟨_, _, n0, _, nc, _⟩ := R8
        refine ⟨hd, _, _, rfl, rfl, h11, lt8, ⟨_, rfl⟩, But.grown (.refl H) n0 (B8.trans B11) h11, S11.put ⟨ha, nc⟩, ?_⟩
        exact R11.push h11 ht (goodP j0 (by omega) ov (wordOk lv))
      · rintro σ H' ⟨⟨y, rfl⟩, B8, S8, R8⟩
        exact ⟨⟨_, rfl⟩, B8, S8, R8.le (by omega)⟩
    rintro σ7 H7 ⟨⟨y, rfl⟩, B7, S7, R7⟩
    clear B6 S6 R6
    -- links
    refine ⟨_, rfl, _, rfl, _, _, rfl, rfl, a, ca, 0, n + 3, rfl, S7, by omega, fun m H8 m0 m1 B8 S8 => ⟨m, rfl, by omega, by omega, fun D nD => ?_⟩⟩
    have R8 := R7.but B8 S7
    have B8 := B7.trans B8
    have xD := S8.ne nD
    have hdD : hd ≠ D := fun e => by
      obtain ⟨xs, _, _, _, _, h, _⟩ := R8
      rw [e, nD] at h
      cases h
    refine lc_range (lo := 0) (n := m.toNat) (fun i H' => But a H H' ∧ Sto H' a ca ∧ RowN pimg (GoodP z n) a ca H H' hd 6 ∧ RowN aimg (fun e => GoodA r z n e ∧ e.2.2.1.length ≤ 100) a ca H H' D i) ⟨B8.trans (But.new nD), S8.new nD, R8.same (same_new nD), RowN.nil (B8.free nD xD.1) xD.1 xD.2 upd_same⟩ ?_ ?_
    · rintro i H' hi ⟨B9, S9, R9, L9⟩
      have hi2 : i < 70 := by
        have : i < m.toNat := hi
        omega
      obtain ⟨xs, h9, lt9, _, n0, _⟩ := L9.lt (by omega)
      refine ⟨rfl, _, rfl, _, rfl, _, rfl, _, rfl, _, rfl, a, ca, r, z, n, lo, rfl, S9, ar, az, n1, by omega, lo0, by omega, fun t e H10 g l100 B10 S10 nt ta tc ht => ?_⟩
      have h10 := B10 _ _ xD.1 h9
      exact ⟨_, h10, lt9, But.grown (.refl H) n0 (B9.trans B10) h10, S10.put xD, (R9.but B10 S9).other hdD h10, (L9.but B10 S9).push h10 ht ⟨g, l100⟩⟩
    rintro H9 ⟨B9, S9, R9, L9⟩
    clear B7 S7 R7 B8 S8 R8
    refine ⟨fun σ' H' => (∃ y : Option V, σ' = [some (.ref a), some (.str r), some (.str z), some (.int lim), some (.int n), some (.int lo), some (.ref hd), y, some (.ref D), none, none, none, none, none]) ∧ But a H H' ∧ Sto H' a ca ∧ RowN pimg (GoodP z n) a ca H H' hd 6 ∧ RowN aimg (fun e => GoodA r z n e ∧ e.2.2.1.length ≤ 100) a ca H H' D 130, ?_, ?_⟩
    · refine ⟨_, rfl, a, ca, 2, rfl, S9, by decide, fun d H10 _ _ B10 S10 => ⟨rfl, _, rfl, ite2 (fun _ => ?_) (fun _ => ?_)⟩⟩
      · refine ⟨_, rfl, _, _, rfl, rfl, n - 1, rfl, by omega, by omega, ?_⟩
        refine for_range (lo := 0) (n := (n - 1).toNat) (fun i σ H' => (∃ y : Option V, σ = [some (.ref a), some (.str r), some (.str z), some (.int lim), some (.int n), some (.int lo), some (.ref hd), y, some (.ref D), none, none, none, none, none]) ∧ But a H H' ∧ Sto H' a ca ∧ RowN pimg (GoodP z n) a ca H H' hd 6 ∧ RowN aimg (fun e => GoodA r z n e ∧ e.2.2.1.length ≤ 100) a ca H H' D (67 + i)) ⟨⟨_, rfl⟩, B9.trans B10, S10, R9.but B10 S9, (L9.but B10 S9).le (by omega)⟩ ?_ ?_
        · rintro i σ H' hi ⟨⟨y, rfl⟩, B11, S11, R11, L11⟩
          have hi2 : (i : Int) < n - 1 := by
            have : i < (n - 1).toNat := hi
            omega
          obtain ⟨xs, h11, lt11, _, n0, _⟩ := L11.lt (by omega)
          refine ⟨_, rfl, .inl ⟨rfl, _, .inl (.inl h11)⟩, _, rfl, _, rfl, _, rfl, a, ca, S11, .inl ⟨r, rfl, ar.len1, ar.small, fun c H12 hc B12 S12 => ⟨_, rfl, _, rfl, _, rfl, a, ca, z, lo, rfl, S12, az.len1, az.small, by omega, fun v H13 ov lv B13 S13 => ⟨_, rfl, _, _, rfl, rfl, by show 4 ≤ sizeLine; decide, fun t nt => ?_⟩⟩⟩⟩
          have B14 := (B12.trans B13).trans (But.new (o := .tup [.int (0 + (i : Int)), .str ⟨#[c]⟩, .str v, .int (0 + (i : Int) + 1)]) nt)
          have R14 := R11.but B14 S11
          have L14 := L11.but B14 S11
          have h14 := B14 _ _ xD.1 h11
          have ht : (upd H13 t (.tup [.int (0 + (i : Int)), .str ⟨#[c]⟩, .str v, .int (0 + (i : Int) + 1)])) t = some (.tup (aimg (0 + (i : Int), ⟨#[c]⟩, v, 0 + (i : Int) + 1))) := upd_same
          have S14 := S13.new (o := .tup [.int (0 + (i : Int)), .str ⟨#[c]⟩, .str v, .int (0 + (i : Int) + 1)]) nt
          generalize upd H13 t (.tup [.int (0 + (i : Int)), .str ⟨#[c]⟩, .str v, .int (0 + (i : Int) + 1)]) = H14 at B14 R14 L14 h14 ht S14 ⊢
          have lv := wordOk lv
          refine ⟨D, _, _, rfl, rfl, h14, lt11, ⟨_, rfl⟩, But.grown (.refl H) n0 (B11.trans B14) h14, S14.put xD, R14.other hdD h14, ?_⟩
          refine L14.push h14 ht ⟨⟨by show 0 ≤ 0 + (i : Int); omega, by show 0 + (i : Int) ≤ n - 1; omega, rfl, Over.one hc, ov, by show (v.length : Int) ≤ 400; omega, by show 0 ≤ 0 + (i : Int) + 1; omega, by show 0 + (i : Int) + 1 ≤ n - 1; omega⟩, by show v.length ≤ 100; omega⟩
        · rintro σ H' ⟨⟨y, rfl⟩, B11, S11, R11, L11⟩
          exact ⟨⟨_, rfl⟩, B11, S11, R11, L11.le (by omega)⟩
      · exact ⟨⟨_, rfl⟩, B9.trans B10, S10, R9.but B10 S9, (L9.but B10 S9).le (by omega)⟩
    rintro σ10 H10 ⟨⟨y, rfl⟩, B10, S10, R10, L10⟩
    clear B9 S9 R9 L9
    -- one like another
    refine ⟨fun σ' H' => (∃ y y2 : Option V, σ' = [some (.ref a), some (.str r), some (.str z), some (.int lim), some (.int n), some (.int lo), some (.ref hd), y, some (.ref D), y2, none, none, none, none]) ∧ But a H H' ∧ Sto H' a ca ∧ RowN pimg (GoodP z n) a ca H H' hd 6 ∧ RowN aimg (GoodA r z n) a ca H H' D 138, ?_, ?_⟩
    · obtain ⟨xs, es, n0, _, xc, h10, en, ge, lx⟩ := L10
      rcases xs with _ | ⟨x0, xs⟩
      · exact ⟨_, rfl, false, .inl ⟨[], .inl (.inl h10), rfl⟩, iteF (iteF ⟨⟨_, _, rfl⟩, B10, S10, R10, [], es, n0, xD.1, xD.2, h10, en, fun e m => (ge e m).1, Nat.zero_le _⟩)⟩
      refine ⟨_, rfl, true, .inl ⟨x0 :: xs, .inl (.inl h10), rfl⟩, iteT ?_⟩
      refine ⟨_, rfl, a, ca, 3, rfl, S10, by decide, fun d H11 _ _ B11 S11 => ⟨rfl, _, rfl, ite2 (fun _ => ?_) (fun _ => ?_)⟩⟩
      · have h11 := B11 _ _ xD.1 h10
        have en11 := en.butN B11 S10.ntup
        refine ⟨_, rfl, _, rfl, a, ca, S11, .inr ⟨D, _, rfl, xD.1, h11, by show 0 < xs.length + 1; omega, by omega, fun x H12 mx B12 S12 => ?_⟩⟩
        obtain ⟨i, hi⟩ := List.getElem?_of_mem mx
        obtain ⟨e, t, he, rfl, ht⟩ := en11.get hi
        obtain ⟨⟨g1, g2, g3, g4, g5, g6, g7, g8⟩, g100⟩ := ge e (List.mem_of_getElem? he)
        have nt : t ≠ a := fun z => S11.ntup _ (by rw [← z]; exact ht)
        have ht12 := B12 _ _ nt ht
        have h12 := B12 _ _ xD.1 h11
        refine ⟨_, rfl, .inl ⟨rfl, _, .inl (.inl h12)⟩, _, rfl, _, _, _, _, rfl, rfl, .inl (.inl ht12), rfl, _, rfl, _, _, _, _, rfl, rfl, .inl (.inl ht12), rfl, _, rfl, _, rfl, _, rfl, _, _, _, _, rfl, rfl, .inl (.inl ht12), rfl, a, ca, z, e.2.2.1, rfl, S12, az.len1, az.small, az.nodup, by omega, g5, fun v H13 ov lv B13 S13 => ?_⟩
        have ht13 := B13 _ _ nt ht12
        refine ⟨_, rfl, _, _, _, _, rfl, rfl, .inl (.inl ht13), rfl, by show 4 ≤ sizeLine; decide, fun t2 nt2 => ?_⟩
        have B14 := (((B11.trans B12).trans B13)).trans (But.new (o := .tup [.int e.1, .str e.2.1, .str v, .int e.2.2.2]) nt2)
        have R14 := R10.but B14 S10
        have L14 := (show RowN aimg (fun e => GoodA r z n e ∧ e.2.2.1.length ≤ 100) a ca H H10 D 130 from ⟨x0 :: xs, es, n0, xD.1, xD.2, h10, en, ge, lx⟩).weak (G' := GoodA r z n) (fun e h => h.1)
        have L14 := L14.but B14 S10
        have h14 := B14 _ _ xD.1 h10
        have ht2 : (upd H13 t2 (.tup [.int e.1, .str e.2.1, .str v, .int e.2.2.2])) t2 = some (.tup (aimg (e.1, e.2.1, v, e.2.2.2))) := upd_same
        have S14 := S13.new (o := .tup [.int e.1, .str e.2.1, .str v, .int e.2.2.2]) nt2
        generalize upd H13 t2 (.tup [.int e.1, .str e.2.1, .str v, .int e.2.2.2]) = H14 at B14 R14 L14 h14 ht2 S14 ⊢
        refine ⟨D, _, _, rfl, rfl, h14, Nat.lt_of_le_of_lt lx (by decide), ⟨_, _, rfl⟩, But.grown (.refl H) n0 (B10.trans B14) h14, S14.put xD, R14.other hdD h14, ?_⟩
        exact (L14.push h14 ht2 ⟨g1, g2, g3, g4, ov, by show (v.length : Int) ≤ 400; omega, g7, g8⟩).le (by decide)
      · refine ⟨⟨_, _, rfl⟩, B10.trans B11, S11, R10.but B11 S10, ?_⟩
        exact (((show RowN aimg (fun e => GoodA r z n e ∧ e.2.2.1.length ≤ 100) a ca H H10 D 130 from ⟨x0 :: xs, es, n0, xD.1, xD.2, h10, en, ge, lx⟩).weak (G' := GoodA r z n) (fun e h => h.1)).but B11 S10).le (by decide)
    rintro σ11 H11 ⟨⟨y, y2, rfl⟩, B11, S11, R11, L11⟩
    clear B10 S10 R10 L10
    -- stops
    refine ⟨_, rfl, _, _, rfl, rfl, _, rfl, _, rfl, _, rfl, a, ca, z, lo, rfl, S11, az.len1, az.small, by omega, fun v H12 ov lv B12 S12 => ?_⟩
    have lv := wordOk lv
    refine ⟨by show 2 ≤ sizeLine; decide, fun t nt => ?_⟩
    have R12 := R11.but B12 S11
    have L12 := L11.but B12 S11
    have B12 := B11.trans B12
    have k5 := same_new (o := .tup [.int (n - 1), .str v]) nt
    have ht : (upd H12 t (.tup [.int (n - 1), .str v])) t = some (.tup (pimg (n - 1, v))) := upd_same
    have S13 := S12.new (o := .tup [.int (n - 1), .str v]) nt
    have B13 := B12.trans (But.same k5)
    have R13 := R12.same k5
    have L13 := L12.same k5
    generalize upd H12 t (.tup [.int (n - 1), .str v]) = H13 at k5 ht S13 B13 R13 L13 ⊢
    refine ⟨by show 1 ≤ sizeLine; decide, fun st ns => ?_⟩
    have k6 := same_new (o := .lst [.ref t]) ns
    have xs' := S13.ne ns
    have hs := R13.some ns
    have ls := L13.some ns
    have Z14 : RowN pimg (GoodP z n) a ca H (upd H13 st (.lst [.ref t])) st 1 := ⟨[.ref t], [(n - 1, v)], B13.free ns xs'.1, xs'.1, xs'.2, upd_same, .cons ⟨t, rfl, k6 _ _ ht⟩ .nil, fun e m => (by rw [List.mem_singleton.mp m]; exact goodP (by omega) (Int.le_refl _) ov lv), Nat.le_refl _⟩
    have S14 := S13.new (o := .lst [.ref t]) ns
    have B14 := B13.trans (But.same k6)
    have R14 := R13.same k6
    have L14 := L13.same k6
    generalize upd H13 st (.lst [.ref t]) = H14 at S14 B14 Z14 R14 L14 ⊢
    clear S11 B11 R11 L11 S12 B12 R12 L12 S13 B13 R13 L13 k5 k6 ht nt
    refine ⟨fun σ' H' => (∃ y y2 : Option V, σ' = [some (.ref a), some (.str r), some (.str z), some (.int lim), some (.int n), some (.int lo), some (.ref hd), y, some (.ref D), y2, some (.ref st), none, none, none]) ∧ Three r z n a ca H H' hd D st, ?_, ?_⟩
    · refine ⟨_, rfl, by show 6 ≤ sizeLine; decide, fun p np => ⟨a, ca, S14.new np, .inr ⟨p, _, rfl, (S14.ne np).1, upd_same, by show 0 < 6; decide, by show 6 ≤ 1000000; decide, fun x H15 mx B15 S15 => ?_⟩⟩⟩
      obtain ⟨m, rfl, m0, m3⟩ : ∃ m : Int, x = .int m ∧ 0 ≤ m ∧ m ≤ 3 := by
        simp only [List.mem_cons, List.not_mem_nil, or_false] at mx
        rcases mx with h | h | h | h | h | h <;> exact ⟨_, h, by decide, by decide⟩
      have S14' := S14.new (o := .lst [.int 0, .int 0, .int 1, .int 1, .int 2, .int 3]) np
      have R15 := (R14.same (same_new np)).but B15 S14'
      have L15 := (L14.same (same_new np)).but B15 S14'
      have Z15 := (Z14.same (same_new np)).but B15 S14'
      have B15 := (B14.trans (But.new np)).trans B15
      refine ⟨m, rfl, by omega, by omega, ?_⟩
      refine for_range (lo := 0) (n := m.toNat) (fun i σ H' => (∃ y y2 : Option V, σ = [some (.ref a), some (.str r), some (.str z), some (.int lim), some (.int n), some (.int lo), some (.ref hd), y, some (.ref D), y2, some (.ref st), none, none, none]) ∧ But a H H' ∧ Sto H' a ca ∧ RowN pimg (GoodP z n) a ca H H' hd 6 ∧ RowN aimg (GoodA r z n) a ca H H' D 138 ∧ RowN pimg (GoodP z n) a ca H H' st (1 + i)) ⟨⟨_, _, rfl⟩, B15, S15, R15, L15, Z15⟩ ?_ ?_
      · rintro i σ H' hi ⟨⟨y, y2, rfl⟩, B8, S8, R8, L8, Z8⟩
        have hi2 : i < 3 := by
          have : i < m.toNat := hi
          omega
        obtain ⟨xs, h8, lt8, ha, _⟩ := Z8.lt (by omega)
        refine ⟨_, rfl, .inl ⟨rfl, _, .inl (.inl h8)⟩, _, rfl, _, rfl, a, ca, n, rfl, S8, by omega, fun j H9 j0 j1 B9 S9 => ⟨_, rfl, _, rfl, _, rfl, a, ca, z, lo, rfl, S9, az.len1, az.small, by omega, fun v H10 ov lv B10 S10 => ⟨by show 2 ≤ sizeLine; decide, fun t nt => ?_⟩⟩⟩
        have B11 := (B9.trans B10).trans (But.new (o := .tup [.int j, .str v]) nt)
        have R11 := R8.but B11 S8
        have L11 := L8.but B11 S8
        have Z11 := Z8.but B11 S8
        have h11 := B11 _ _ ha h8
        have ht : (upd H10 t (.tup [.int j, .str v])) t = some (.tup (pimg (j, v))) := upd_same
        have S11 := S10.new (o := .tup [.int j, .str v]) nt
        generalize upd H10 t (.tup [.int j, .str v]) = H11 at B11 R11 L11 Z11 h11 ht S11 ⊢
        obtain ⟨_, _, n0, _, nc, _⟩ := Z8
        refine ⟨st, _, _, rfl, rfl, h11, lt8, ⟨_, _, rfl⟩, But.grown (.refl H) n0 (B8.trans B11) h11, S11.put ⟨ha, nc⟩, R11.other hs h11, L11.other ls h11, ?_⟩
        exact Z11.push h11 ht (goodP j0 (by omega) ov (wordOk lv))
      · rintro σ H' ⟨⟨y, y2, rfl⟩, B8, S8, R8, L8, Z8⟩
        exact ⟨⟨_, _, rfl⟩, B8, S8, R8, L8, Z8.le (by omega), hdD, hs, ls⟩
    rintro σ15 H15 ⟨⟨y, y2, rfl⟩, T15⟩
    clear S14 B14 R14 L14 Z14
    -- one of the three may be empty
    refine ⟨_, rfl, a, ca, 24, rfl, T15.s, by decide, fun d H16 _ _ B16 S16 => ?_⟩
    have T16 := T15.but B16 S16
    refine ⟨fun σ' H' => ∃ hd, (∃ y y2 : Option V, σ' = [some (.ref a), some (.str r), some (.str z), some (.int lim), some (.int n), some (.int lo), some (.ref hd), y, some (.ref D), y2, some (.ref st), some (.int d), none, none]) ∧ Three r z n a ca H H' hd D st, ?_, ?_⟩
    · refine ⟨_, rfl, rfl, _, rfl, ite2 (fun _ => ⟨by show 0 ≤ sizeLine; decide, fun p np => ?_⟩) (fun _ => ⟨hd, ⟨_, _, rfl⟩, T16⟩)⟩
      have x := T16.s.ne np
      exact ⟨p, ⟨_, _, rfl⟩, T16.b.trans (But.new np), T16.s.new np, (RowN.nil (T16.b.free np x.1) x.1 x.2 upd_same).le (by decide), T16.r2.same (same_new np), T16.r3.same (same_new np), (T16.r2.some np).symm, (T16.r3.some np).symm, T16.n3⟩
    rintro σ17 H17 ⟨hd, ⟨y, y2, rfl⟩, T17⟩
    refine ⟨fun σ' H' => ∃ D, (∃ y y2 : Option V, σ' = [some (.ref a), some (.str r), some (.str z), some (.int lim), some (.int n), some (.int lo), some (.ref hd), y, some (.ref D), y2, some (.ref st), some (.int d), none, none]) ∧ Three r z n a ca H H' hd D st, ?_, ?_⟩
    · refine ⟨_, rfl, rfl, _, rfl, ite2 (fun _ => ⟨by show 0 ≤ sizeLine; decide, fun p np => ?_⟩) (fun _ => ⟨D, ⟨_, _, rfl⟩, T17⟩)⟩
      have x := T17.s.ne np
      exact ⟨p, ⟨_, _, rfl⟩, T17.b.trans (But.new np), T17.s.new np, T17.r1.same (same_new np), (RowN.nil (T17.b.free np x.1) x.1 x.2 upd_same).le (by decide), T17.r3.same (same_new np), T17.r1.some np, T17.n2, (T17.r3.some np).symm⟩
    rintro σ18 H18 ⟨D, ⟨y, y2, rfl⟩, T18⟩
    refine ⟨fun σ' H' => ∃ st, (∃ y y2 : Option V, σ' = [some (.ref a), some (.str r), some (.str z), some (.int lim), some (.int n), some (.int lo), some (.ref hd), y, some (.ref D), y2, some (.ref st), some (.int d), none, none]) ∧ Three r z n a ca H H' hd D st, ?_, ?_⟩
    · refine ⟨_, rfl, rfl, _, rfl, ite2 (fun _ => ⟨by show 0 ≤ sizeLine; decide, fun p np => ?_⟩) (fun _ => ⟨st, ⟨_, _, rfl⟩, T18⟩)⟩
      have x := T18.s.ne np
      exact ⟨p, ⟨_, _, rfl⟩, T18.b.trans (But.new np), T18.s.new np, T18.r1.same (same_new np), T18.r2.same (same_new np), (RowN.nil (T18.b.free np x.1) x.1 x.2 upd_same).le (by decide), T18.n1, T18.r1.some np, T18.r2.some np⟩
    rintro σ19 H19 ⟨st, ⟨y, y2, rfl⟩, T19⟩
    -- repeated
    refine ⟨_, rfl, _, rfl, _, rfl, by show 3 ≤ sizeLine; decide, fun pp np => ?_⟩
    have xp := T19.s.ne np
    have T20 := T19.but (But.new (o := .lst [.ref hd, .ref D, .ref st]) np) (T19.s.new np)
    have hpp : (upd H19 pp (.lst [.ref hd, .ref D, .ref st])) pp = some (.lst [.ref hd, .ref D, .ref st]) := upd_same
    have p1 := T19.r1.some np
    have p2 := T19.r2.some np
    have p3 := T19.r3.some np
    generalize upd H19 pp (.lst [.ref hd, .ref D, .ref st]) = H20 at T20 hpp ⊢
    refine ⟨pp, rfl, ⟨_, .inl (.inl hpp)⟩, fun W nW => ?_⟩
    have xW := T20.s.ne nW
    have q1 := T20.r1.some nW
    have q2 := T20.r2.some nW
    have q3 := T20.r3.some nW
    have nWH := T20.b.free nW xW.1
    have ppW : pp ≠ W := fun e => by rw [e, nW] at hpp; cases hpp
    have T21 := T20.but (But.new (o := .lst []) nW) (T20.s.new nW)
    refine lc_list (K := K) (a := pp) (xs := [.ref hd, .ref D, .ref st]) (fun i H' => Three r z n a ca H H' hd D st ∧ H' pp = some (.lst [.ref hd, .ref D, .ref st]) ∧ ∃ ps : List Addr, H' W = some (.lst (ps.map V.ref)) ∧ ps.length = i ∧ ps.Nodup ∧ ∀ (j : Nat) (q : Addr), ps[j]? = some q → q ≠ W ∧ Rk r z n a ca H 2 j H' q)
      ⟨T21, by rw [upd_ne ppW]; exact hpp, [], upd_same, rfl, List.nodup_nil, fun j q e => by cases e⟩ (fun i H' _ h => .inl (.inl h.2.1)) ?_ ?_
    · rintro i x H' hx ⟨T, hpp2, ps, hW, lps, nd, rows⟩
      obtain ⟨l, rfl, rk, lW⟩ : ∃ l, x = .ref l ∧ Rk r z n a ca H 0 i H' l ∧ l ≠ W := by
        match i, hx with
        | 0, rfl => exact ⟨hd, rfl, T.r1, q1⟩
        | 1, rfl => exact ⟨D, rfl, T.r2, q2⟩
        | 2, rfl => exact ⟨st, rfl, T.r3, q3⟩
      have i3 : i < 3 := (List.getElem?_eq_some_iff.mp hx).1
      obtain ⟨l0, la, lc, xs, hl, lx⟩ := rk.row
      refine ⟨rfl, _, rfl, _, rfl, a, ca, l, xs, 2, rfl, T.s, la, hl, by omega, by decide, by decide, fun ys q H22 my ly B22 S22 nq qa qc hq => ?_⟩
      have hW2 := B22 _ _ xW.1 hW
      have T22 := T.but B22 S22
      have qW : q ≠ W := fun e => by
        rw [e, hW] at nq
        cases nq
      refine ⟨_, hW2, by rw [List.length_map, lps]; exact Nat.lt_of_lt_of_le i3 (by decide), ?_, ?_, ps ++ [q], by rw [upd_same, List.map_append]; rfl, by rw [List.length_append, lps]; rfl, ?_, ?_⟩
      · exact ⟨But.grown (.refl H) nWH T22.b hW2, T22.s.put xW, T22.r1.other q1 hW2, T22.r2.other q2 hW2, T22.r3.other q3 hW2, T22.n1, T22.n2, T22.n3⟩
      · rw [upd_ne ppW]
        exact B22 _ _ xp.1 hpp2
      · refine List.nodup_append.mpr ⟨nd, List.pairwise_singleton .., fun x hx y hy e => ?_⟩
        rw [List.mem_singleton.mp hy] at e
        subst e
        obtain ⟨j, hj⟩ := List.getElem?_of_mem hx
        obtain ⟨_, _, _, zs, hz, _⟩ := (rows j x hj).2.row
        rw [nq] at hz
        cases hz
      · intro j u hj
        by_cases jl : j < ps.length
        · rw [List.getElem?_append_left jl] at hj
          obtain ⟨uW, rku⟩ := rows j u hj
          exact ⟨uW, (rku.but B22 T.s).other uW hW2⟩
        · have ej : j = i := by
            have := (List.getElem?_eq_some_iff.mp hj).1
            rw [List.length_append] at this
            have : j < ps.length + 1 := this
            omega
          subst ej
          rw [List.getElem?_append_right (by omega), lps, Nat.sub_self] at hj
          have hj : q = u := Option.some.inj hj
          subst hj
          refine ⟨qW, Rk.other qW hW2 (rk.rep T.s B22 (fun xs' h => ?_) (T.b.free nq qa) qa qc hq)⟩
          rw [hl] at h
          cases h
          exact ⟨fun y m => (my y).mp m, ly⟩
    rintro H21 ⟨T21, _, ps, hW, lps, nd, rows⟩
    obtain ⟨u1, u2, u3, rfl⟩ := list3 (show ps.length = 3 from lps)
    have hW : H21 W = some (.lst [.ref u1, .ref u2, .ref u3]) := hW
    have o1 := (rows 0 u1 rfl).2
    have o2 := (rows 1 u2 rfl).2
    have o3 := (rows 2 u3 rfl).2
    refine ⟨_, rfl, _, rfl, _, rfl, _, rfl, _, _, _, _, rfl, rfl, .inl (.inl hW), rfl, _, rfl, _, _, _, _, rfl, rfl, .inl (.inl hW), rfl, _, rfl, _, _, _, _, rfl, rfl, .inl (.inl hW), rfl, by show 6 ≤ sizeLine; decide, fun t nt => ?_⟩
    have x := T21.s.ne nt
    have k := same_new (o := .tup [.str r, .str z, .int n, .ref u1, .ref u2, .ref u3]) nt
    simp only [List.nodup_cons, List.mem_cons, List.not_mem_nil, or_false, not_or] at nd
    exact q t u1 u2 u3 n _ (by omega) nl (RowN.same o1 k) (RowN.same o2 k) (RowN.same o3 k) nd.1.1 nd.1.2 nd.2.1 (T21.b.trans (But.same k)) (T21.s.new nt) (T21.b.free nt x.1) x.1 x.2 upd_same

theorem sing_list {l : List Str} {a : List Nat} (nd : l.Nodup) (m : ∀ k, k ∈ l ↔ ∃ c ∈ a, k = PySem.Froz.sing c) : ∃ ns : List Nat, l = ns.map PySem.Froz.sing ∧ ns.Nodup ∧ ∀ c, c ∈ ns ↔ c ∈ a := by
  have e : l = (l.map fun k => (cs k).headD 0).map PySem.Froz.sing := by
    rw [List.map_map]
    refine (List.map_id'' (fun _ => rfl) l).symm.trans (List.map_congr_left fun k hk => ?_)
    obtain ⟨c, _, rfl⟩ := (m k).mp hk
    rfl
  refine ⟨_, e, ?_, fun c => ?_⟩
  · rw [e] at nd
    exact (List.Pairwise.of_map PySem.Froz.sing (fun a b hne q => hne (congrArg _ q)) nd)
  · constructor
    · intro h
      obtain ⟨k, hk, e2⟩ := List.mem_map.mp h
      obtain ⟨d, hd, rfl⟩ := (m k).mp hk
      have : d = c := e2
      rw [← this]
      exact hd
    · intro h
      exact List.mem_map.mpr ⟨PySem.Froz.sing c, (m _).mpr ⟨c, h, rfl⟩, rfl⟩
def sp_is_letters (_ : PySem.W.Frag) : Sp := fun vs H Q _ => ∃ v : V, vs = [v] ∧ Shal H v ∧ Good H ∧ ∀ (b : Bool) (H' : Hp), (b = true ↔ ∃ x, v = .str x ∧ IsAlpha x) → Same H H' → Q (.bl b) H'
theorem ok_is_letters (T : Txt K mg base) : FnOk P w K mg base CX0 (0 + 1) T.f_is_letters T.fd_is_letters ["value"] (sp_is_letters K) := by
  refine T.F_is_letters.ok sc_is_letters (fun vs H Q E h => ?_) (fun A outer s H vs Q E hr h => ?_)
  · obtain ⟨x, rfl, _⟩ := h
    rfl
  · obtain ⟨v, rfl, sv, good, q⟩ := h
    refine ⟨_, (pss_cons (ps_if (PW.pt (pw_or (pt_not (pt_val (pe_callB call_isi (by rfl) T.z_isinstance (by decide +kernel) (pa_cons (pv 0) (pa_cons (pe_bltn (v := .ty "str") (by rfl) T.z_str (by decide +kernel) rfl) pa_nil))))) (pw_or1 (pt_not (pt_chain op_le op_le pe_int (pe_callB call_len_str (by rfl) T.z_len PySem.boot_len (pa_cons (pv 0) pa_nil)) (pe_glob (v := .int 4) (by rfl) T.c_MAX_LETTERS ⟨_, rfl⟩)))))) (pss_one (ps_ret pe_bl)) pss_nil)
      (pss_cons (ps_if (pt_not (pt_val (GQ.pe_allG hr T.z_all T.c_SMALL_LETTERS T.B_is_letters T.m_is_letters rfl (GQ.genB_by (sc := defScope s_is_letters) (by decide +kernel)) (pv 0)))) (pss_one (ps_ret pe_bl)) pss_nil)
      (pss_one (ps_ret (pe_cmpR (op_eqD hr.units) (pe_callTy (cr_listT rfl) (by rfl) T.z_list (by decide +kernel) (pa_cons (pv 0) pa_nil)) (pe_callB (SetQ.cr_sortedTx rfl) (by rfl) T.z_sorted (by decide +kernel) (pa_cons (pe_callTy (SetQ.cr_setT2 rfl) (by rfl) T.z_set (by decide +kernel) (pa_cons (pv 0) pa_nil)) pa_nil)) (nomark _)))))), ?_⟩
    obtain ⟨ty, hty, kt⟩ := isi_str (K := K) sv
    refine ⟨_, rfl, _, _, _, _, _, rfl, .ty _, hty, kt, _, rfl, ?_⟩
    cases hs : isStr v with
    | false =>
      refine iteC rfl ?_
      refine iteC rfl ?_
      refine q false _ ⟨fun h => (by cases h), fun h => ?_⟩ (.refl H)
      obtain ⟨x, rfl, _⟩ := h
      cases hs
    | true =>
    obtain ⟨x, rfl⟩ := isStr_of hs
    have sx := sv.text
    replace q : ∀ (b : Bool) (H' : Hp), (b = true ↔ IsAlpha x) → Same H H' → Q (.bl b) H' := fun b H' h s => q b H' (h.trans ⟨fun a => ⟨x, rfl, a⟩, fun ⟨y, e, a⟩ => by cases e; exact a⟩) s
    refine iteF ?_
    refine ⟨_, rfl, x, rfl, small_text sx, _, _, rfl, rfl, _, rfl, ite2 (fun g1 => ?_) (fun g1 => ?_)⟩
    · refine ⟨_, _, rfl, rfl, _, rfl, ?_⟩
      have g1 : 1 ≤ x.length := by
        have := of_decide_eq_true g1
        omega
      by_cases g2 : x.length ≤ 4
      · refine iteN (by rw [decide_eq_true (by omega)]; rfl) ?_
        refine ⟨_, rfl, x, rfl, good, fun H1 s1 => ?_⟩
        by_cases g3 : (x.cps.toList.all fun c => decide (c ∈ (Str.ofString "abcdefghijklmnopqrstuvwxyz").cps.toList)) = true
        · refine ⟨_, rfl, iteN (by rw [g3]; rfl) ?_⟩
          have low : ∀ c ∈ cs x, 97 ≤ c ∧ c ≤ 122 := fun c hc => abc_low c (of_decide_eq_true (List.all_eq_true.mp g3 c hc))
          refine ⟨_, rfl, x, rfl, small_text sx, fun p1 n1 => ?_⟩
          have asc : x.cps.all (· < 128) = true := by
            rw [← Array.all_toList]
            refine List.all_eq_true.mpr fun c hc => decide_eq_true ?_
            have := low c hc
            omega
          have ln : x.cps.toList.length = x.length := cs_len x
          refine ⟨_, rfl, x, rfl, asc, by rw [ln]; omega, fun p2 l n2 nd mem le => ?_⟩
          obtain ⟨ns, rfl, nn, mm⟩ := sing_list nd mem
          refine ⟨p2, _, rfl, upd_same, nd, ?_, fun ws p3 srt perm n3 => ?_⟩
          · rw [ln] at le
            omega
          · obtain ⟨ds, ew, pm, le⟩ := SetQ.sorted_sing srt perm
            have e3 : ws.map V.str = ds.map signV := by
              rw [ew, List.map_map]
              rfl
            have m3 : ∀ d ∈ ds, d < 128 := fun d hd => by
              have := low d ((mm d).mp (pm.mem_iff.mp hd))
              omega
            refine ⟨_, _, dp_signs (SqL.of (same_new n3 _ _ (same_new n2 _ _ upd_same))), dp_signs (SqL.of (by rw [upd_same, e3])), shaped_signs fun c hc => ?_, shaped_signs m3, q _ _ ?_ (((s1.trans (same_new n1)).trans (same_new n2)).trans (same_new n3))⟩
            · have := low c hc
              omega
            · show PyData.eqvAll _ _ = true ↔ _
              rw [eqv_signs, decide_eq_true_iff]
              constructor
              · intro e
                have e' : cs x = ds := e
                have asc : (cs x).Pairwise (· < ·) := by
                  rw [e']
                  exact (List.Pairwise.and le (pm.nodup_iff.mpr nn)).imp fun h => Nat.lt_of_le_of_ne h.1 h.2
                exact ⟨asc, low, g1, g2⟩
              · intro h
                have nx : (cs x).Nodup := h.asc.imp fun h => Nat.ne_of_lt h
                exact SetQ.le_unique ((List.perm_ext_iff_of_nodup nx (pm.nodup_iff.mpr nn)).mpr fun c => ((mm c).symm.trans pm.mem_iff.symm)) (h.asc.imp fun h => Nat.le_of_lt h) le
        · refine ⟨_, rfl, iteC (by rw [Bool.eq_false_iff.mpr g3]; rfl) ?_⟩
          refine q false _ ⟨fun h => (by cases h), fun h => absurd (List.all_eq_true.mpr fun c hc => decide_eq_true ?_) g3⟩ s1
          have := h.low c hc
          show c ∈ cs abc
          rw [cs_abc, List.mem_range'_1]
          omega
      · refine iteC (by rw [decide_eq_false (by omega)]; rfl) ?_
        exact q false _ ⟨fun h => (by cases h), fun h => absurd h.len4 g2⟩ (.refl H)
    · refine ⟨_, rfl, iteC rfl ?_⟩
      refine q false _ ⟨fun h => (by cases h), fun h => absurd (decide_eq_true ?_) g1⟩ (.refl H)
      have := h.len1
      omega

def sp_check_letters [Tabl] (C : Addr) (_ : PySem.W.Frag) : Sp := fun vs H Q E => ∃ v : V, vs = [v] ∧ Shal H v ∧ Good H ∧ (AlphaV v → ∀ H' : Hp, Same H H' → Q v H') ∧ (¬ AlphaV v → Raised H C v E)
theorem ok_check_letters (T : Txt K mg base) : FnOk P w K mg base (L2.CX P w) (3 + 1) T.f_check_letters T.fd_check_letters ["letters"] (sp_check_letters T.C_BadLetters K) := by
  refine T.F_check_letters.okX sc_check_letters (fun vs H Q E h => ?_) (fun cdv A outer s H vs Q E hr h => ?_)
  · obtain ⟨z, rfl, _⟩ := h
    rfl
  · obtain ⟨v, rfl, sv, good, q, qe⟩ := h
    refine ⟨_, (pss_cons (ps_if (pt_not (pt_val (pe_call (ok_is_letters T) (hr.mono (by first | decide | exact Nat.le_refl _)) (by rfl) T.g_is_letters T.F_is_letters.kp T.b_is_letters .nil pass0 (pa_cons (pv 0) pa_nil)))) (pss_one (ps_raise rfl (takes_of rfl rfl rfl rfl) (pmk_err1 T.E_BadLetters T.iI_BadLetters T.tI_BadLetters T.no_BadLetters_value (ok_init1 (k := 0) (p4 := ⟨0, 0, 0, 0⟩) T.FI_BadLetters sci_BadLetters (by decide) rfl) (hr.mono (by first | decide | exact Nat.le_refl _)) T.bI_BadLetters pass0 (pa_cons (pv 0) pa_nil)))) pss_nil)
      (pss_one (ps_ret (pv 0)))), ?_⟩
    refine ⟨_, rfl, v, rfl, sv, good, fun b H1 hb s1 => ⟨_, rfl, ?_⟩⟩
    cases b with
    | true => exact iteF ⟨_, rfl, q (hb.mp rfl) H1 s1⟩
    | false => exact iteC rfl ⟨_, rfl, _, rfl, fun d nd => qe (fun h => by cases hb.mpr h) d H1 _ s1 nd rfl⟩

def sp_is_whole (_ : PySem.W.Frag) : Sp := fun vs H Q _ => ∃ v : V, vs = [v] ∧ Shal H v ∧ Q (.bl (isInt v)) H
theorem ok_is_whole (T : Txt K mg base) : FnOk P w K mg base CX0 (0 + 1) T.f_is_whole T.fd_is_whole ["value"] (sp_is_whole K) := by
  refine T.F_is_whole.ok sc_is_whole (fun vs H Q E h => ?_) (fun cdv A outer s H vs Q E hr h => ?_)
  · obtain ⟨i, rfl, _⟩ := h
    rfl
  · obtain ⟨v, rfl, sv, q⟩ := h
    refine ⟨_, (pss_one (ps_ret (pe_and (pe_callB call_isi (by rfl) T.z_isinstance (by decide +kernel) (pa_cons (pv 0) (pa_cons (pe_bltn (v := .ty "int") (by rfl) T.z_int (by decide +kernel) rfl) pa_nil))) (pe_one (pe_not (pe_callB call_isi (by rfl) T.z_isinstance (by decide +kernel) (pa_cons (pv 0) (pa_cons (pe_bltn (v := .ty "bool") (by rfl) T.z_bool (by decide +kernel) rfl) pa_nil)))))))), ?_⟩
    obtain ⟨t1, h1, k1⟩ := isi_int (K := K) sv
    obtain ⟨t2, h2, k2⟩ := isi_bool (K := K) sv
    refine ⟨_, rfl, _, _, _, _, _, rfl, .ty _, h1, k1, _, rfl, ?_⟩
    cases e : (isInt v || isBl v) with
    | false =>
      refine iteF ?_
      have : isInt v = false := by
        cases hv : isInt v <;> rw [hv] at e <;> first | rfl | cases e
      rw [this] at q
      exact q
    | true =>
      refine iteT ⟨_, rfl, _, _, _, _, _, rfl, .ty _, h2, k2, _, rfl, ?_⟩
      have : (!isBl v) = isInt v := by
        cases v <;> first | rfl | cases e
      rw [this]
      exact q

def sp_in_range (_ : PySem.W.Frag) : Sp := fun vs H Q _ => ∃ (v : V) (lo hi : Int), vs = [v, .int lo, .int hi] ∧ Shal H v ∧ Q (.bl (inR v lo hi)) H
theorem ok_in_range (T : Txt K mg base) : FnOk P w K mg base CX0 (1 + 1) T.f_in_range T.fd_in_range ["value", "low", "high"] (sp_in_range K) := by
  refine T.F_in_range.ok sc_in_range (fun vs H Q E h => ?_) (fun cdv A outer s H vs Q E hr h => ?_)
  · obtain ⟨v, lo, hi, rfl, _⟩ := h
    rfl
  · obtain ⟨v, lo, hi, rfl, sv, q⟩ := h
    refine ⟨_, (pss_one (ps_ret (pe_and (pe_call (ok_is_whole T) (hr.mono (by first | decide | exact Nat.le_refl _)) (by rfl) T.g_is_whole T.F_is_whole.kp T.b_is_whole .nil pass0 (pa_cons (pv 0) pa_nil)) (pe_one (pe_chain op_le op_le (pv 1) (pv 0) (pv 2)))))), ?_⟩
    refine ⟨_, rfl, v, rfl, sv, _, rfl, ?_⟩
    cases hv : isInt v with
    | false =>
      refine iteF ?_
      have : inR v lo hi = false := by
        cases v <;> first | rfl | cases hv
      rw [this] at q
      exact q
    | true =>
      obtain ⟨i, rfl⟩ := isInt_of hv
      refine iteT ?_
      refine ⟨_, rfl, _, rfl, _, _, rfl, rfl, _, rfl, ?_⟩
      by_cases h : lo ≤ i
      · rw [decide_eq_true h]
        refine iteT ⟨_, rfl, _, _, rfl, rfl, ?_⟩
        have : inR (.int i) lo hi = decide (i ≤ hi) := by
          show (decide (lo ≤ i) && decide (i ≤ hi)) = _
          rw [decide_eq_true h, Bool.true_and]
        rw [this] at q
        exact q
      · rw [decide_eq_false h]
        refine iteF ?_
        have : inR (.int i) lo hi = false := by
          show (decide (lo ≤ i) && decide (i ≤ hi)) = _
          rw [decide_eq_false h, Bool.false_and]
        rw [this] at q
        exact q

def sp_check_number [Tabl] (C : Addr) (_ : PySem.W.Frag) : Sp := fun vs H Q E => ∃ (v : V) (lo hi : Int), vs = [v, .int lo, .int hi] ∧ Shal H v ∧ (inR v lo hi = true → Q v H) ∧ (inR v lo hi = false → Raised H C v E)
theorem ok_check_number (T : Txt K mg base) : FnOk P w K mg base (L2.CX P w) (4 + 1) T.f_check_number T.fd_check_number ["value", "low", "high"] (sp_check_number T.C_BadNumber K) := by
  refine T.F_check_number.okX sc_check_number (fun vs H Q E h => ?_) (fun cdv A outer s H vs Q E hr h => ?_)
  · obtain ⟨v, lo, hi, rfl, _⟩ := h
    rfl
  · obtain ⟨v, lo, hi, rfl, sv, q, qe⟩ := h
    refine ⟨_, (pss_cons (ps_if (pt_not (pt_val (pe_call (ok_in_range T) (hr.mono (by first | decide | exact Nat.le_refl _)) (by rfl) T.g_in_range T.F_in_range.kp T.b_in_range .nil pass0 (pa_cons (pv 0) (pa_cons (pv 1) (pa_cons (pv 2) pa_nil)))))) (pss_one (ps_raise rfl (takes_of rfl rfl rfl rfl) (pmk_err1 T.E_BadNumber T.iI_BadNumber T.tI_BadNumber T.no_BadNumber_value (ok_init1 (k := 0) (p4 := ⟨0, 0, 0, 0⟩) T.FI_BadNumber sci_BadNumber (by decide) rfl) (hr.mono (by first | decide | exact Nat.le_refl _)) T.bI_BadNumber pass0 (pa_cons (pv 0) pa_nil)))) pss_nil)
      (pss_one (ps_ret (pv 0)))), ?_⟩
    refine ⟨_, rfl, _, rfl, _, rfl, v, lo, hi, rfl, sv, _, rfl, ?_⟩
    cases e : inR v lo hi with
    | true => exact iteF ⟨_, rfl, q e⟩
    | false => exact iteC rfl ⟨_, rfl, _, rfl, fun d nd => qe e d H _ (.refl H) nd rfl⟩

def sp_word_key (_ : PySem.W.Frag) : Sp := fun vs H Q _ => ∃ x : Str, vs = [.str x] ∧ x.length ≤ 1000000 ∧ ∀ (p : Addr) (H' : Hp), Same H H' → H p = none → H' p = some (.tup [.int (x.length : Nat), .str x]) → Q (.ref p) H'
theorem ok_word_key (T : Txt K mg base) : FnOk P w K mg base CX0 (0 + 1) T.f_word_key T.fd_word_key ["word"] (sp_word_key K) := by
  refine T.F_word_key.ok sc_word_key (fun vs H Q E h => ?_) (fun cdv A outer s H vs Q E hr h => ?_)
  · obtain ⟨x, rfl, _⟩ := h
    rfl
  · obtain ⟨x, rfl, sx, q⟩ := h
    refine ⟨_, (pss_one (ps_ret (pe_tup (pa_cons (pe_callB call_len_str (by rfl) T.z_len PySem.boot_len (pa_cons (pv 0) pa_nil)) (pa_cons (pv 0) pa_nil))))), ?_⟩
    exact ⟨_, rfl, x, rfl, small_text sx, _, rfl, by show 2 ≤ sizeLine; decide, fun p np => q p _ (same_new np) np upd_same⟩

def sp_arc_key (_ : PySem.W.Frag) : Sp := fun vs H Q _ => ∃ (t : Addr) (i : Int) (l x : Str) (j : Int), vs = [.ref t] ∧ H t = some (.tup [.int i, .str l, .str x, .int j]) ∧ x.length ≤ 1000000 ∧
  ∀ (p p' : Addr) (H' : Hp), Same H H' → H p = none → H' p = some (.tup [.int i, .str l, .ref p', .int j]) → H' p' = some (.tup [.int (x.length : Nat), .str x]) → Q (.ref p) H'
theorem ok_arc_key (T : Txt K mg base) : FnOk P w K mg base CX0 (1 + 1) T.f_arc_key T.fd_arc_key ["arc"] (sp_arc_key K) := by
  refine T.F_arc_key.ok sc_arc_key (fun vs H Q E h => ?_) (fun cdv A outer s H vs Q E hr h => ?_)
  · obtain ⟨t, i, l, x, j, rfl, _⟩ := h
    rfl
  · obtain ⟨t, i, l, x, j, rfl, ht, sx, q⟩ := h
    refine ⟨_, (pss_cons (ps_asg (pv 0) (pg_tup (by rfl) (pgs_cons (pg_name (i := 1) sc_arc_key.nd rfl (.inl rfl)) (pgs_cons (pg_name (i := 2) sc_arc_key.nd rfl (.inl rfl)) (pgs_cons (pg_name (i := 3) sc_arc_key.nd rfl (.inl rfl)) (pgs_cons (pg_name (i := 4) sc_arc_key.nd rfl (.inl rfl)) pgs_nil))))))
      (pss_one (ps_ret (pe_tup (pa_cons (pv 1) (pa_cons (pv 2) (pa_cons (pe_call (ok_word_key T) (hr.mono (by first | decide | exact Nat.le_refl _)) (by rfl) T.g_word_key T.F_word_key.kp T.b_word_key .nil pass0 (pa_cons (pv 3) pa_nil)) (pa_cons (pv 4) pa_nil)))))))), ?_⟩
    refine ⟨_, rfl, t, _, rfl, .inl (.inl ht), rfl, _, _, rfl, _, _, rfl, _, _, rfl, _, _, rfl, rfl, ?_⟩
    refine ⟨_, rfl, _, rfl, _, rfl, x, rfl, sx, fun p1 H1 s1 n1 h1 => ⟨_, rfl, by show 4 ≤ sizeLine; decide, fun p np => ?_⟩⟩
    have k := same_new (o := .tup [.int i, .str l, .ref p1, .int j]) np
    exact q p p1 _ (s1.trans k) (s1.free np) upd_same (k _ _ h1)
theorem kd_arc_key (T : Txt K mg base) : FnOk P w K mg base CX0 (1 + 1) T.f_arc_key T.fd_arc_key ["arc"] (SkF.spKeyD K relA) := (ok_arc_key T).imp fun vs H Q E ⟨v, d, e, ⟨t, i, l, x, j, ex, ht, le, ed⟩, q⟩ => by
  subst ex
  subst ed
  exact ⟨t, i, l, x, j, e, ht, le, fun p p' H' s _ h h' => q _ H' s (dp_akey h h')⟩

def sp_check_many [Tabl] (K : PySem.W.Frag) : Sp := fun vs H Q _ => ∃ (pl : Str) (p : Addr) (xs : List V), vs = [.str pl, .ref p] ∧ Own.RowAt K H p xs ∧ xs.length ≤ 400 ∧ ∀ H' : Hp, Same H H' → Q (.ref p) H'
theorem ok_check_many (T : Txt K mg base) : FnOk P w K mg base CX0 (0 + 1) T.f_check_many T.fd_check_many ["place", "entries"] (sp_check_many K) := by
  refine T.F_check_many.ok sc_check_many (fun vs H Q E h => ?_) (fun cdv A outer s H vs Q E hr h => ?_)
  · obtain ⟨pl, p, xs, rfl, _⟩ := h
    rfl
  · obtain ⟨pl, p, xs, rfl, hp, le, q⟩ := h
    refine ⟨_, (pss_cons (ps_if (pt_not (pt_val (pe_callB call_isiT (by rfl) T.z_isinstance (by decide +kernel) (pa_cons (pv 1) (pa_cons (pe_tup (pa_cons (pe_bltn (v := .ty "list") (by rfl) T.z_list (by decide +kernel) rfl) (pa_cons (pe_bltn (v := .ty "tuple") (by rfl) T.z_tuple (by decide +kernel) rfl) pa_nil))) pa_nil))))) (pss_one ps_dead) pss_nil)
      (pss_cons (ps_if (pt_cmpR op_gt (pe_callB call_len_seq (by rfl) T.z_len PySem.boot_len (pa_cons (pv 1) pa_nil)) (pe_glob (v := .int 400) (by rfl) T.c_MAX_ENTRIES ⟨_, rfl⟩) (nomark _)) (pss_one ps_dead) pss_nil)
      (pss_one (ps_ret (pv 1))))), ?_⟩
    have ex : ∃ (t : Value), ∀ H' : Hp, Same H H' → TyX K H' (.ref p) t ∧ PySem.W.kitAny K t [.type "list", .type "tuple"] = some true := by
      rcases hp with h | h | ⟨_, o, n, h, c, _⟩
      · exact ⟨.type "list", fun H' s => ⟨.base (.lst (s _ _ h)), any_1st (kit_ty (by decide +kernel))⟩⟩
      · exact ⟨.type "tuple", fun H' s => ⟨.base (.tup (s _ _ h)), any_2nd (kit_ty (by decide +kernel)) (kit_ty (by decide +kernel))⟩⟩
      · exact ⟨.type "tuple", fun H' s => ⟨.kTuple h c, any_2nd (kit_ty (by decide +kernel)) (kit_ty (by decide +kernel))⟩⟩
    obtain ⟨t, ht⟩ := ex
    refine ⟨_, rfl, by show 2 ≤ sizeLine; decide, fun tp np => ?_⟩
    have k := same_new (o := .tup [.ty "list", .ty "tuple"]) np
    refine ⟨_, tp, _, t, _, true, rfl, upd_same, .cons (.ty _) (.cons (.ty _) .nil), (ht _ k).1, (ht _ k).2, _, rfl, iteN rfl ?_⟩
    have hp' := (hp.same k).sq
    refine ⟨_, rfl, p, xs, rfl, hp', _, _, rfl, rfl, _, rfl, iteN (decide_eq_false (by omega)) ⟨_, rfl, q _ k⟩⟩

def sp_is_letter (_ : PySem.W.Frag) : Sp := fun vs H Q _ => ∃ (v : V) (z : Str), vs = [.str z, v] ∧ z.length ≤ 1000000 ∧ Shal H v ∧ ∀ b : Bool, (b = true ↔ ∃ x, v = .str x ∧ x.length = 1 ∧ Over z x) → Q (.bl b) H
theorem ok_is_letter (T : Txt K mg base) : FnOk P w K mg base CX0 (0 + 1) T.f_is_letter T.fd_is_letter ["letters", "value"] (sp_is_letter K) := by
  refine T.F_is_letter.ok sc_is_letter (fun vs H Q E h => ?_) (fun cdv A outer s H vs Q E hr h => ?_)
  · obtain ⟨v, z, rfl, _⟩ := h
    rfl
  · obtain ⟨v, z, rfl, sz, sv, q⟩ := h
    refine ⟨_, (pss_one (ps_ret (pe_and (pe_callB call_isi (by rfl) T.z_isinstance (by decide +kernel) (pa_cons (pv 1) (pa_cons (pe_bltn (v := .ty "str") (by rfl) T.z_str (by decide +kernel) rfl) pa_nil))) (pe_and (pe_cmpR op_eq (pe_callB call_len_str (by rfl) T.z_len PySem.boot_len (pa_cons (pv 1) pa_nil)) pe_int (nomark _)) (pe_one (pe_cmpR op_in_sign (pv 1) (pv 0) rfl)))))), ?_⟩
    obtain ⟨ty, hty, kt⟩ := isi_str (K := K) sv
    refine ⟨_, rfl, _, _, _, _, _, rfl, .ty _, hty, kt, _, rfl, ?_⟩
    cases hs : isStr v with
    | false =>
      refine iteF (q false ⟨fun h => (by cases h), fun ⟨x, e, _⟩ => ?_⟩)
      rw [e] at hs
      cases hs
    | true =>
    obtain ⟨x, rfl⟩ := isStr_of hs
    refine iteT ⟨_, rfl, x, rfl, small_text sv.text, rfl, _, rfl, ite2 (fun g => ?_) (fun g => ?_)⟩
    · have g1 : x.length = 1 := by
        have := of_decide_eq_true g
        injection this with e
        omega
      obtain ⟨c, rfl⟩ := sign_of g1
      refine ⟨_, rfl, _, rfl, c, z, rfl, rfl, q _ ?_⟩
      constructor
      · intro h
        exact ⟨_, rfl, g1, fun d hd => by rw [show d = c from List.mem_singleton.mp hd]; exact of_decide_eq_true h⟩
      · rintro ⟨y, e, _, o⟩
        cases e
        exact decide_eq_true (o c (List.mem_singleton.mpr rfl))
    · refine q false ⟨fun h => (by cases h), fun ⟨y, e, l, _⟩ => (g (decide_eq_true ?_)).elim⟩
      cases e
      rw [l]
      rfl

def sp_is_word (_ : PySem.W.Frag) : Sp := fun vs H Q _ => ∃ L v : V, vs = [L, v] ∧ Shal H L ∧ Shal H v ∧ Good H ∧ ∀ (b : Bool) (H' : Hp), (b = true ↔ ∃ z x, L = .str z ∧ v = .str x ∧ IsAlpha z ∧ Over z x) → Same H H' → Q (.bl b) H'
theorem ok_is_word (T : Txt K mg base) : FnOk P w K mg base CX0 (1 + 1) T.f_is_word T.fd_is_word ["letters", "value"] (sp_is_word K) := by
  refine T.F_is_word.ok sc_is_word (fun vs H Q E h => ?_) (fun A outer s H vs Q E hr h => ?_)
  · obtain ⟨z, x, rfl, _⟩ := h
    rfl
  · obtain ⟨L, v, rfl, sL, sv, good, q⟩ := h
    refine ⟨_, (pss_cons (ps_if (PW.pt (pw_or (pt_not (pt_val (pe_call (ok_is_letters T) (hr.mono (by first | decide | exact Nat.le_refl _)) (by rfl) T.g_is_letters T.F_is_letters.kp T.b_is_letters .nil pass0 (pa_cons (pv 0) pa_nil)))) (pw_or1 (pt_not (pt_val (pe_callB call_isi (by rfl) T.z_isinstance (by decide +kernel) (pa_cons (pv 1) (pa_cons (pe_bltn (v := .ty "str") (by rfl) T.z_str (by decide +kernel) rfl) pa_nil)))))))) (pss_one (ps_ret pe_bl)) pss_nil)
      (pss_one (ps_ret (GQ.pe_allV hr T.z_all (i := 0) rfl T.B_is_word T.m_is_word rfl (GQ.genB_by (sc := defScope s_is_word) (by decide +kernel)) (pv 1))))), ?_⟩
    refine ⟨_, rfl, L, rfl, sL, good, fun b H1 hb s1 => ?_⟩
    cases b with
    | false =>
      refine ⟨_, rfl, iteC rfl (iteC rfl ?_)⟩
      refine q false _ ⟨fun h => (by cases h), fun ⟨z, x, e1, e2, al, _⟩ => ?_⟩ s1
      have := hb.mpr ⟨z, e1, al⟩
      cases this
    | true =>
      obtain ⟨z, rfl, al⟩ := hb.mp rfl
      refine ⟨_, rfl, iteF ?_⟩
      obtain ⟨ty, hty, kt⟩ := isi_str (K := K) (sv.same s1)
      refine ⟨_, rfl, _, _, _, _, _, rfl, .ty _, hty, kt, _, rfl, ?_⟩
      cases hs : isStr v with
      | false =>
        refine iteC rfl ?_
        refine q false _ ⟨fun h => (by cases h), fun ⟨z, x, e1, e2, al, _⟩ => ?_⟩ s1
        rw [e2] at hs
        cases hs
      | true =>
      obtain ⟨x, rfl⟩ := isStr_of hs
      refine iteF ?_
      refine ⟨_, rfl, x, z, rfl, rfl, s1.good good, fun H2 s2 => ?_⟩
      refine q _ _ ?_ (s1.trans s2)
      rw [List.all_eq_true]
      constructor
      · exact fun h => ⟨z, x, rfl, rfl, al, fun c hc => of_decide_eq_true (h c hc)⟩
      · rintro ⟨z', x', e1, e2, _, h⟩ c hc
        cases e1
        cases e2
        exact decide_eq_true (h c hc)

def sp_is_word_up_to (_ : PySem.W.Frag) : Sp := fun vs H Q _ => ∃ (L v : V) (m : Int), vs = [L, v, .int m] ∧ Shal H L ∧ Shal H v ∧ Good H ∧ ∀ (b : Bool) (H' : Hp), (b = true ↔ ∃ z x, L = .str z ∧ v = .str x ∧ IsAlpha z ∧ Over z x ∧ (x.length : Int) ≤ m) → Same H H' → Q (.bl b) H'
theorem ok_is_word_up_to (T : Txt K mg base) : FnOk P w K mg base CX0 (2 + 1) T.f_is_word_up_to T.fd_is_word_up_to ["letters", "value", "most"] (sp_is_word_up_to K) := by
  refine T.F_is_word_up_to.ok sc_is_word_up_to (fun vs H Q E h => ?_) (fun cdv A outer s H vs Q E hr h => ?_)
  · obtain ⟨z, x, m, rfl, _⟩ := h
    rfl
  · obtain ⟨L, v, m, rfl, sL, sv, good, q⟩ := h
    refine ⟨_, (pss_one (ps_ret (pe_and (pe_callB call_isi (by rfl) T.z_isinstance (by decide +kernel) (pa_cons (pv 1) (pa_cons (pe_bltn (v := .ty "str") (by rfl) T.z_str (by decide +kernel) rfl) pa_nil))) (pe_and (pe_cmpR op_le (pe_callB call_len_str (by rfl) T.z_len PySem.boot_len (pa_cons (pv 1) pa_nil)) (pv 2) (nomark _)) (pe_one (pe_call (ok_is_word T) (hr.mono (by first | decide | exact Nat.le_refl _)) (by rfl) T.g_is_word T.F_is_word.kp T.b_is_word .nil pass0 (pa_cons (pv 0) (pa_cons (pv 1) pa_nil)))))))), ?_⟩
    obtain ⟨ty, hty, kt⟩ := isi_str (K := K) sv
    refine ⟨_, rfl, _, _, _, _, _, rfl, .ty _, hty, kt, _, rfl, ?_⟩
    cases hs : isStr v with
    | false =>
      refine iteF (q false _ ⟨fun h => (by cases h), fun ⟨z, x, e1, e2, _⟩ => ?_⟩ (.refl H))
      rw [e2] at hs
      cases hs
    | true =>
    obtain ⟨x, rfl⟩ := isStr_of hs
    refine iteT ?_
    refine ⟨_, rfl, x, rfl, small_text sv.text, _, rfl, _, _, rfl, rfl, _, rfl, ite2 (fun g => ?_) (fun g => ?_)⟩
    · refine ⟨_, rfl, _, rfl, L, .str x, rfl, sL, sv, good, fun b H1 hb s1 => q b H1 ?_ s1⟩
      rw [hb]
      exact ⟨fun ⟨z, y, e1, e2, al, o⟩ => ⟨z, y, e1, e2, al, o, by cases e2; exact of_decide_eq_true g⟩, fun ⟨z, y, e1, e2, al, o, _⟩ => ⟨z, y, e1, e2, al, o⟩⟩
    · refine q _ _ ⟨fun h => (by simp at h), fun ⟨z, y, e1, e2, al, o, l⟩ => absurd (decide_eq_true ?_) g⟩ (.refl H)
      cases e2
      exact l

def sp_is_pair (_ : PySem.W.Frag) : Sp := fun vs H Q _ => ∃ (v : V) (z : Str) (n : Int), vs = [v, .str z, .int n] ∧ IsAlpha z ∧ Shal H v ∧ Inner H v ∧ Good H ∧ ∀ (b : Bool) (H' : Hp), (b = true ↔ PairV H z n v) → Same H H' → Q (.bl b) H'
theorem ok_is_pair (T : Txt K mg base) : FnOk P w K mg base CX0 (3 + 1) T.f_is_pair T.fd_is_pair ["value", "write", "size"] (sp_is_pair K) := by
  refine T.F_is_pair.ok sc_is_pair (fun vs H Q E h => ?_) (fun cdv A outer s H vs Q E hr h => ?_)
  · obtain ⟨v, z, n, rfl, _⟩ := h
    rfl
  · obtain ⟨v, z, n, rfl, al, sv, inn, good, q⟩ := h
    refine ⟨_, (pss_cons (ps_if (PW.pt (pw_or (pt_not (pt_val (pe_callB call_isi (by rfl) T.z_isinstance (by decide +kernel) (pa_cons (pv 0) (pa_cons (pe_bltn (v := .ty "tuple") (by rfl) T.z_tuple (by decide +kernel) rfl) pa_nil))))) (pw_or1 (pt_cmpR op_ne (pe_callB call_len_seq (by rfl) T.z_len PySem.boot_len (pa_cons (pv 0) pa_nil)) pe_int (nomark _))))) (pss_one (ps_ret pe_bl)) pss_nil)
      (pss_cons (ps_asg (pv 0) (pg_tup (by rfl) (pgs_cons (pg_name (i := 3) sc_is_pair.nd rfl (.inl rfl)) (pgs_cons (pg_name (i := 4) sc_is_pair.nd rfl (.inl rfl)) pgs_nil))))
      (pss_one (ps_ret (pe_and (pe_call (ok_in_range T) (hr.mono (by first | decide | exact Nat.le_refl _)) (by rfl) T.g_in_range T.F_in_range.kp T.b_in_range .nil pass0 (pa_cons (pv 3) (pa_cons pe_int (pa_cons (pe_op op_sub (pv 2) pe_int) pa_nil)))) (pe_one (pe_call (ok_is_word_up_to T) (hr.mono (by first | decide | exact Nat.le_refl _)) (by rfl) T.g_is_word_up_to T.F_is_word_up_to.kp T.b_is_word_up_to .nil pass0 (pa_cons (pv 1) (pa_cons (pv 4) (pa_cons (pe_glob (v := .int 400) (by rfl) T.c_MAX_WRITTEN ⟨_, rfl⟩) pa_nil)))))))))), ?_⟩
    obtain ⟨ty, b, hty, kt, hb⟩ := isi_tup (K := K) sv
    have no : ∀ {c : Bool} {H' : Hp}, c = false → (¬ PairV H z n v) → Same H H' → Q (.bl c) H' := fun e nn s => q _ _ ⟨fun h => (by rw [e] at h; cases h), fun h => (nn h).elim⟩ s
    refine ⟨_, rfl, _, _, _, _, _, rfl, .ty _, hty, kt, _, rfl, ?_⟩
    cases b with
    | false =>
      refine iteC rfl (iteC rfl (no rfl (fun ⟨t, i, x, e, ht, _⟩ => ?_) (.refl H)))
      have := hb.mpr ⟨t, _, e, ht⟩
      cases this
    | true =>
    obtain ⟨t, xs, rfl, ht⟩ := hb.mp rfl
    refine iteN rfl ⟨_, rfl, t, xs, rfl, .inr (.inl (.inl ht)), rfl, _, rfl, ?_⟩
    by_cases l2 : xs.length = 2
    case neg =>
      refine iteC (by rw [decide_eq_false (fun e => l2 (by injection e with e; omega))]; rfl) (no rfl (fun ⟨t', i, x, e, ht', _⟩ => l2 ?_) (.refl H))
      cases e
      rw [ht] at ht'
      cases ht'
      rfl
    refine iteN (by rw [decide_eq_true (by rw [l2]; rfl)]; rfl) ?_
    obtain ⟨s1, w1, rfl⟩ : ∃ a b, xs = [a, b] := by
      match xs, l2 with
      | [a, b], _ => exact ⟨a, b, rfl⟩
    have ss := inn t _ rfl ht s1 (by simp)
    have sw := inn t _ rfl ht w1 (by simp)
    refine ⟨_, rfl, t, _, rfl, .inl (.inl ht), rfl, _, _, rfl, _, _, rfl, rfl, ?_⟩
    refine ⟨_, rfl, _, rfl, _, _, rfl, rfl, s1, 0, n - 1, rfl, ss, _, rfl, ?_⟩
    cases e : inR s1 0 (n - 1) with
    | false =>
      refine iteF (no rfl (fun ⟨t', i, x, e1, ht', i0, i1, _⟩ => ?_) (.refl H))
      cases e1
      rw [ht] at ht'
      cases ht'
      have : inR (.int i) 0 (n - 1) = true := by
        show (decide (0 ≤ i) && decide (i ≤ n - 1)) = true
        rw [decide_eq_true i0, decide_eq_true i1]
        rfl
      rw [this] at e
      cases e
    | true =>
    obtain ⟨i, rfl, i0, i1⟩ : ∃ i, s1 = .int i ∧ 0 ≤ i ∧ i ≤ n - 1 := by
      cases s1 with
      | int i =>
        have e' : (decide (0 ≤ i) && decide (i ≤ n - 1)) = true := e
        exact ⟨i, rfl, of_decide_eq_true (Bool.and_eq_true _ _ ▸ e').1, of_decide_eq_true (Bool.and_eq_true _ _ ▸ e').2⟩
      | _ => cases e
    refine iteT ⟨_, rfl, _, rfl, .str z, w1, 400, rfl, shal_str (Nat.le_trans al.len4 (by decide)), sw, good, fun b H1 hb s1 => q b H1 ?_ s1⟩
    rw [hb]
    constructor
    · rintro ⟨z', x, e1, rfl, _, o, l⟩
      cases e1
      exact ⟨t, i, x, rfl, ht, i0, i1, o, l⟩
    · rintro ⟨t', i', x, e1, ht', _, _, o, l⟩
      cases e1
      rw [ht] at ht'
      cases ht'
      exact ⟨z, x, rfl, rfl, al, o, l⟩

def sp_is_arc (_ : PySem.W.Frag) : Sp := fun vs H Q _ => ∃ (v : V) (r z : Str) (n : Int), vs = [v, .str r, .str z, .int n] ∧ IsAlpha r ∧ IsAlpha z ∧ Shal H v ∧ Inner H v ∧ Good H ∧ ∀ (b : Bool) (H' : Hp), (b = true ↔ ArcV H r z n v) → Same H H' → Q (.bl b) H'
theorem ok_is_arc (T : Txt K mg base) : FnOk P w K mg base CX0 (4 + 1) T.f_is_arc T.fd_is_arc ["value", "read", "write", "size"] (sp_is_arc K) := by
  refine T.F_is_arc.ok sc_is_arc (fun vs H Q E h => ?_) (fun cdv A outer s H vs Q E hr h => ?_)
  · obtain ⟨v, r, z, n, rfl, _⟩ := h
    rfl
  · obtain ⟨v, r, z, n, rfl, ar, az, sv, inn, good, q⟩ := h
    refine ⟨_, (pss_cons (ps_if (PW.pt (pw_or (pt_not (pt_val (pe_callB call_isi (by rfl) T.z_isinstance (by decide +kernel) (pa_cons (pv 0) (pa_cons (pe_bltn (v := .ty "tuple") (by rfl) T.z_tuple (by decide +kernel) rfl) pa_nil))))) (pw_or1 (pt_cmpR op_ne (pe_callB call_len_seq (by rfl) T.z_len PySem.boot_len (pa_cons (pv 0) pa_nil)) pe_int (nomark _))))) (pss_one (ps_ret pe_bl)) pss_nil)
      (pss_cons (ps_asg (pv 0) (pg_tup (by rfl) (pgs_cons (pg_name (i := 4) sc_is_arc.nd rfl (.inl rfl)) (pgs_cons (pg_name (i := 5) sc_is_arc.nd rfl (.inl rfl)) (pgs_cons (pg_name (i := 6) sc_is_arc.nd rfl (.inl rfl)) (pgs_cons (pg_name (i := 7) sc_is_arc.nd rfl (.inl rfl)) pgs_nil))))))
      (pss_one (ps_ret (pe_and (pe_call (ok_is_letter T) (hr.mono (by first | decide | exact Nat.le_refl _)) (by rfl) T.g_is_letter T.F_is_letter.kp T.b_is_letter .nil pass0 (pa_cons (pv 1) (pa_cons (pv 5) pa_nil))) (pe_and (pe_call (ok_is_pair T) (hr.mono (by first | decide | exact Nat.le_refl _)) (by rfl) T.g_is_pair T.F_is_pair.kp T.b_is_pair .nil pass0 (pa_cons (pe_tup (pa_cons (pv 4) (pa_cons (pv 6) pa_nil))) (pa_cons (pv 2) (pa_cons (pv 3) pa_nil)))) (pe_one (pe_call (ok_in_range T) (hr.mono (by first | decide | exact Nat.le_refl _)) (by rfl) T.g_in_range T.F_in_range.kp T.b_in_range .nil pass0 (pa_cons (pv 7) (pa_cons pe_int (pa_cons (pe_op op_sub (pv 3) pe_int) pa_nil))))))))))), ?_⟩
    obtain ⟨ty, b, hty, kt, hb⟩ := isi_tup (K := K) sv
    have no : ∀ {c : Bool} {H' : Hp}, c = false → (¬ ArcV H r z n v) → Same H H' → Q (.bl c) H' := fun e nn s => q _ _ ⟨fun h => (by rw [e] at h; cases h), fun h => (nn h).elim⟩ s
    refine ⟨_, rfl, _, _, _, _, _, rfl, .ty _, hty, kt, _, rfl, ?_⟩
    cases b with
    | false =>
      refine iteC rfl (iteC rfl (no rfl (fun ⟨t, i, l, x, j, e, ht, _⟩ => ?_) (.refl H)))
      have := hb.mpr ⟨t, _, e, ht⟩
      cases this
    | true =>
    obtain ⟨t, xs, rfl, ht⟩ := hb.mp rfl
    refine iteN rfl ⟨_, rfl, t, xs, rfl, .inr (.inl (.inl ht)), rfl, _, rfl, ?_⟩
    by_cases l2 : xs.length = 4
    case neg =>
      refine iteC (by rw [decide_eq_false (fun e => l2 (by injection e with e; omega))]; rfl) (no rfl (fun ⟨t', i, l, x, j, e, ht', _⟩ => l2 ?_) (.refl H))
      cases e
      rw [ht] at ht'
      cases ht'
      rfl
    refine iteN (by rw [decide_eq_true (by rw [l2]; rfl)]; rfl) ?_
    obtain ⟨v1, v2, v3, v4, rfl⟩ : ∃ a b c d, xs = [a, b, c, d] := by
      match xs, l2 with
      | [a, b, c, d], _ => exact ⟨a, b, c, d, rfl⟩
    have s1 := inn t _ rfl ht v1 (by simp)
    have s2 := inn t _ rfl ht v2 (by simp)
    have s3 := inn t _ rfl ht v3 (by simp)
    have s4 := inn t _ rfl ht v4 (by simp)
    refine ⟨_, rfl, t, _, rfl, .inl (.inl ht), rfl, _, _, rfl, _, _, rfl, _, _, rfl, _, _, rfl, rfl, ?_⟩
    refine ⟨_, rfl, _, rfl, v2, r, rfl, Nat.le_trans ar.len4 (by decide), s2, fun b1 hb1 => ⟨_, rfl, ?_⟩⟩
    cases b1 with
    | false =>
      refine iteF (no rfl (fun ⟨t', i, l, x, j, e1, ht', _, _, l1, o1, _⟩ => ?_) (.refl H))
      cases e1
      rw [ht] at ht'
      cases ht'
      have := hb1.mpr ⟨l, rfl, l1, o1⟩
      cases this
    | true =>
    obtain ⟨l, rfl, l1, o1⟩ := hb1.mp rfl
    refine iteT ⟨_, rfl, _, rfl, by show 2 ≤ sizeLine; decide, fun p np => ?_⟩
    have kp := same_new (o := .tup [v1, v3]) np
    have hp : (upd H p (.tup [v1, v3])) p = some (.tup [v1, v3]) := upd_same
    generalize upd H p (.tup [v1, v3]) = H1 at kp hp ⊢
    refine ⟨_, rfl, _, rfl, .ref p, z, n, rfl, az, .inr (.inr (.inr (.inr ⟨p, _, rfl, .inr hp⟩))), fun t' xs e ht' y hy => ?_, kp.good good, fun b2 H2 hb2 k2 => ⟨_, rfl, ?_⟩⟩
    · cases e
      rw [hp] at ht'
      cases ht'
      rcases List.mem_cons.mp hy with rfl | hy
      · exact s1.same kp
      · rw [List.mem_singleton.mp hy]
        exact s3.same kp
    have sm : Same H H2 := kp.trans k2
    cases b2 with
    | false =>
      refine iteF (no rfl (fun ⟨t', i, l, x, j, e1, ht', i0, i1, _, _, o, le, _⟩ => ?_) sm)
      cases e1
      rw [ht] at ht'
      cases ht'
      have := hb2.mpr ⟨p, i, x, rfl, hp, i0, i1, o, le⟩
      cases this
    | true =>
    obtain ⟨p', i, x, e, hp', i0, i1, o, le⟩ := hb2.mp rfl
    cases e
    rw [hp] at hp'
    cases hp'
    refine iteT ⟨_, rfl, _, rfl, _, _, rfl, rfl, v4, 0, n - 1, rfl, s4.same sm, ?_⟩
    refine q _ _ ?_ sm
    constructor
    · intro e
      cases v4 with
      | int j =>
        have e' : (decide (0 ≤ j) && decide (j ≤ n - 1)) = true := e
        exact ⟨t, i, l, x, j, rfl, ht, i0, i1, l1, o1, o, le, of_decide_eq_true (Bool.and_eq_true _ _ ▸ e').1, of_decide_eq_true (Bool.and_eq_true _ _ ▸ e').2⟩
      | _ => cases e
    · rintro ⟨t', i', l', x', j, e1, ht', _, _, _, _, _, _, j0, j1⟩
      cases e1
      rw [ht] at ht'
      cases ht'
      show (decide (0 ≤ j) && decide (j ≤ n - 1)) = true
      rw [decide_eq_true j0, decide_eq_true j1]
      rfl

def sp_checked_arcs [Tabl] (K : PySem.W.Frag) : Sp := fun vs H Q _ => ∃ (p : Addr) (xs : List V) (es : List EnS.Arc) (r z : Str) (n : Int), vs = [.ref p, .str r, .str z, .int n] ∧ IsAlpha r ∧ IsAlpha z ∧ Own.RowAt K H p xs ∧ xs.length ≤ 400 ∧ Good H ∧ EntL aimg H xs es ∧
  (∀ e ∈ es, 0 ≤ e.1 ∧ e.1 ≤ n - 1 ∧ e.2.1.length = 1 ∧ Over r e.2.1 ∧ Over z e.2.2.1 ∧ (e.2.2.1.length : Int) ≤ 400 ∧ 0 ≤ e.2.2.2 ∧ e.2.2.2 ≤ n - 1) ∧
  ∀ (ys : List V) (ds : List EnS.Arc) (l : Addr) (H' : Hp), ds.Pairwise EnS.ALt → (∀ e, e ∈ ds ↔ e ∈ es) → ds.length ≤ es.length → EntL aimg H' ys ds → Same H H' → H l = none → H' l = some (.lst ys) → Q (.ref l) H'
theorem ok_checked_arcs (T : Txt K mg base) : FnOk P w K mg base CX0 (5 + 1) T.f_checked_arcs T.fd_checked_arcs ["entries", "read", "write", "size"] (sp_checked_arcs K) := by
  refine T.F_checked_arcs.ok sc_checked_arcs (fun vs H Q E h => ?_) (fun cdv A outer s H vs Q E hr h => ?_)
  · obtain ⟨p, xs, es, r, z, n, rfl, _⟩ := h
    rfl
  · obtain ⟨p, xs, es, r, z, n, rfl, ar, al, hp, le, good, ents, ok, q⟩ := h
    refine ⟨_, (C8.pss_cut (ps_for PassesOwn.never rfl (EnT.pi_enumS (by rfl) T.z_enumerate (pa_cons (pe_call (ok_check_many T) (hr.mono (by first | decide | exact Nat.le_refl _)) (by rfl) T.g_check_many T.F_check_many.kp T.b_check_many .nil pass0 (pa_cons pe_str (pa_cons (pv 0) pa_nil))) pa_nil)) (pg_tup (by rfl) (pgs_cons (pg_name (i := 4) sc_checked_arcs.nd rfl (.inl rfl)) (pgs_cons (pg_name (i := 5) sc_checked_arcs.nd rfl (.inl rfl)) pgs_nil))) (pss_one (ps_if (pt_not (pt_val (pe_call (ok_is_arc T) (hr.mono (by first | decide | exact Nat.le_refl _)) (by rfl) T.g_is_arc T.F_is_arc.kp T.b_is_arc .nil pass0 (pa_cons (pv 5) (pa_cons (pv 1) (pa_cons (pv 2) (pa_cons (pv 3) pa_nil))))))) (pss_one ps_dead) pss_nil)))
      (pss_one (ps_ret (pe_callBK (SkF.cr_sortKey (kd_arc_key T) T.b_arc_key (hr.mono (by first | decide | exact Nat.le_refl _)) hr.units relA_same) (by rfl) T.z_sorted (by decide +kernel) (pa_cons (pe_callTy (call_list_dT rfl) (by rfl) T.z_list (by decide +kernel) (pa_cons (DcT.pe_dcT (own := [("entry", 5)]) (g := gName 5) (Nat.lt_of_le_of_lt (Nat.le_add_right _ 64) hr.units) rfl sc_checked_arcs.nd (EnT.pi_seq (pv 0)) (blkOk_by (N := ["entries", "read", "write", "size", "index", "entry"]) (sc := defScope s_checked_arcs) (by decide +kernel)) (fun _ _ _ _ _ => pg_name (i := 5) sc_checked_arcs.nd rfl (Or.inl rfl)) (fun _ _ _ _ _ => pts_nil) (fun _ _ _ _ _ => (pv 5)) (fun _ _ _ _ _ => pe_bl)) pa_nil)) pa_nil) (pk_cons (pe_glob (v := .ref T.f_arc_key) (by rfl) T.g_arc_key rfl) pk_nil))))), ?_⟩
    refine ⟨fun σ' H' => (∃ y y', σ' = [some (.ref p), some (.str r), some (.str z), some (.int n), y, y']) ∧ Same H H', ?_, ?_⟩
    · refine ⟨_, rfl, Str.ofString "arcs", p, xs, rfl, hp, le, fun H1 s1 => ⟨p, xs, rfl, ?_⟩⟩
      refine for_enumS (hp.same s1).sq (fun i σ H' => (∃ y y', σ = [some (.ref p), some (.str r), some (.str z), some (.int n), y, y']) ∧ Same H1 H') ⟨⟨_, _, rfl⟩, .refl _⟩ (fun i σ H' h => h.2) ?_ fun σ H' h => ⟨h.1, s1.trans h.2⟩
      rintro i x σ H' T hx ⟨⟨y, y', rfl⟩, s2⟩ nT
      have k := same_new (o := .tup [.int ((i : Nat) : Int), x]) nT
      have hT : (upd H' T (.tup [.int ((i : Nat) : Int), x])) T = some (.tup [.int ((i : Nat) : Int), x]) := upd_same
      generalize upd H' T (.tup [.int ((i : Nat) : Int), x]) = H2 at k hT ⊢
      have sm := (s1.trans s2).trans k
      obtain ⟨e, t, he, rfl, ht⟩ := ents.get hx
      obtain ⟨e0, e1, e2, e3, e4, e5, e6, e7⟩ := ok e (List.mem_of_getElem? he)
      have ht2 := sm _ _ ht
      have sv : Shal H2 (.ref t) := .inr (.inr (.inr (.inr ⟨t, _, rfl, .inr ht2⟩)))
      refine ⟨T, _, rfl, .inl (.inl hT), rfl, _, _, rfl, _, _, rfl, rfl, ?_⟩
      refine ⟨_, rfl, _, rfl, _, rfl, _, rfl, .ref t, r, z, n, rfl, ar, al, sv, fun t' zs e' h' y hy => ?_, sm.good good, fun b H3 hb s3 => ⟨_, rfl, ?_⟩⟩
      · cases e'
        rw [ht2] at h'
        cases h'
        rcases List.mem_cons.mp hy with rfl | hy
        · exact shal_int
        rcases List.mem_cons.mp hy with rfl | hy
        · exact shal_str (by omega)
        rcases List.mem_cons.mp hy with rfl | hy
        · exact shal_str (by omega)
        · rw [List.mem_singleton.mp hy]
          exact shal_int
      · have : b = true := hb.mpr ⟨t, e.1, e.2.1, e.2.2.1, e.2.2.2, rfl, ht2, e0, e1, e2, e3, e4, e5, e6, e7⟩
        subst this
        exact iteN rfl ⟨⟨_, _, rfl⟩, (s2.trans k).trans s3⟩
    rintro σ' H1 ⟨⟨y, y', rfl⟩, s1⟩
    have ents1 := ents.same s1
    dsimp only [tRet, tCKw, tCons, tCB]
    refine dct_ents (i := 5) (j := 0) (σ := [some (.ref p), some (.str r), some (.str z), some (.int n), y, y']) apk_inj (es := es) rfl (fun _ => rfl) (fun _ => rfl) (fun _ _ _ h => h) (fun _ _ _ h => h) (hp.same s1).sq (by omega) ents1 fun D H2 s2 nD hD => ?_
    refine ⟨D, _, rfl, .inl hD, fun l0 bs nl0 hk => ?_⟩
    have k3 := same_new (o := .lst (bs.map V.ref)) nl0
    have hl0 : (upd H2 l0 (.lst (bs.map V.ref))) l0 = some (.lst (bs.map V.ref)) := upd_same
    have ent3 : EntL aimg (upd H2 l0 (.lst (bs.map V.ref))) (bs.map V.ref) (onces es) := (ents_keys (pk := apk) hk).same k3
    generalize upd H2 l0 (.lst (bs.map V.ref)) = H3 at k3 hl0 ent3 ⊢
    have dat := fun t e => adec_at (H := H3) t e
    have of : ∀ v ∈ bs.map V.ref, ∃ e t, e ∈ onces es ∧ v = .ref t ∧ H3 t = some (.tup (aimg e)) := fun v hv => by
      obtain ⟨i, hi⟩ := List.getElem?_of_mem hv
      obtain ⟨e, t, he, ev, ht⟩ := ent3.get hi
      exact ⟨e, t, List.mem_of_getElem? he, ev, ht⟩
    refine ⟨l0, bs.map V.ref, fun v => akeyE (adec H3 v), rfl, rfl, .inl (.inl hl0), fun v hv => ?_, fun d hd d' hd' => ?_, .inl fun d hd => ?_, fun v hv => EnS.depth_akey _ _ _ _, fun l H4 s4 nl hl => ?_⟩
    · obtain ⟨e, t, he, rfl, ht⟩ := of v hv
      refine ⟨t, e.1, e.2.1, e.2.2.1, e.2.2.2, rfl, ht, ?_, by dsimp only; rw [dat t e ht]; rfl⟩
      have := (ok e ((onces_mem es e).mp he)).2.2.2.2.2.1
      omega
    · obtain ⟨v, _, rfl⟩ := List.mem_map.mp hd
      obtain ⟨v', _, rfl⟩ := List.mem_map.mp hd'
      exact EnS.alike_akey _ _ _ _ _ _ _ _
    · obtain ⟨v, _, rfl⟩ := List.mem_map.mp hd
      exact ⟨_, _, rfl⟩
    · obtain ⟨e1, ent4⟩ := ent3.perm dat (List.mergeSort_perm (bs.map V.ref) (PySem.W.dataLe false fun v => akeyE (adec H3 v)))
      have nd : ((bs.map V.ref).map (adec H3)).Nodup := by
        rw [← e1]
        exact onces_nodup es
      have pm := (List.mergeSort_perm (bs.map V.ref) (PySem.W.dataLe false fun v => akeyE (adec H3 v))).map (adec H3)
      rw [← e1] at pm
      refine q _ _ l H4 (sorted_strict (enc := akeyE) (dec := adec H3) (fun e f => EnS.le_akey) _ nd) (fun e => by rw [pm.mem_iff, onces_mem]) (by rw [pm.length_eq]; exact onces_len es) (ent4.same s4) (((s1.trans s2).trans k3).trans s4) (s1.free (s2.free (k3.free nl))) hl

def sp_pair_key (_ : PySem.W.Frag) : Sp := fun vs H Q _ => ∃ (t : Addr) (i : Int) (x : Str), vs = [.ref t] ∧ H t = some (.tup [.int i, .str x]) ∧ x.length ≤ 1000000 ∧
  ∀ (p p' : Addr) (H' : Hp), Same H H' → H p = none → H' p = some (.tup [.int i, .ref p']) → H' p' = some (.tup [.int (x.length : Nat), .str x]) → Q (.ref p) H'
theorem ok_pair_key (T : Txt K mg base) : FnOk P w K mg base CX0 (1 + 1) T.f_pair_key T.fd_pair_key ["pair"] (sp_pair_key K) := by
  refine T.F_pair_key.ok sc_pair_key (fun vs H Q E h => ?_) (fun cdv A outer s H vs Q E hr h => ?_)
  · obtain ⟨t, i, x, rfl, _⟩ := h
    rfl
  · obtain ⟨t, i, x, rfl, ht, sx, q⟩ := h
    refine ⟨_, (pss_cons (ps_asg (pv 0) (pg_tup (by rfl) (pgs_cons (pg_name (i := 1) sc_pair_key.nd rfl (.inl rfl)) (pgs_cons (pg_name (i := 2) sc_pair_key.nd rfl (.inl rfl)) pgs_nil))))
      (pss_one (ps_ret (pe_tup (pa_cons (pv 1) (pa_cons (pe_call (ok_word_key T) (hr.mono (by first | decide | exact Nat.le_refl _)) (by rfl) T.g_word_key T.F_word_key.kp T.b_word_key .nil pass0 (pa_cons (pv 2) pa_nil)) pa_nil)))))), ?_⟩
    refine ⟨_, rfl, t, _, rfl, .inl (.inl ht), rfl, _, _, rfl, _, _, rfl, rfl, ?_⟩
    refine ⟨_, rfl, _, rfl, x, rfl, sx, fun p1 H1 s1 n1 h1 => ⟨by show 2 ≤ sizeLine; decide, fun p np => ?_⟩⟩
    have k := same_new (o := .tup [.int i, .ref p1]) np
    exact q p p1 _ (s1.trans k) (s1.free np) upd_same (k _ _ h1)
theorem kd_pair_key (T : Txt K mg base) : FnOk P w K mg base CX0 (1 + 1) T.f_pair_key T.fd_pair_key ["pair"] (SkF.spKeyD K relP) := (ok_pair_key T).imp fun vs H Q E ⟨x, d, e, ⟨t, i, y, ex, ht, l, ed⟩, q⟩ => by
  subst ex
  subst ed
  exact ⟨t, i, y, e, ht, l, fun p p' H' s _ h h' => q _ H' s (dp_pkey h h')⟩

def sp_checked_pairs [Tabl] (K : PySem.W.Frag) : Sp := fun vs H Q _ => ∃ (pl : Str) (p : Addr) (xs : List V) (es : List (Int × Str)) (z : Str) (n : Int), vs = [.str pl, .ref p, .str z, .int n] ∧ IsAlpha z ∧ Own.RowAt K H p xs ∧ xs.length ≤ 400 ∧ Good H ∧ EntL pimg H xs es ∧
  (∀ e ∈ es, 0 ≤ e.1 ∧ e.1 ≤ n - 1 ∧ Over z e.2 ∧ (e.2.length : Int) ≤ 400) ∧
  ∀ (ys : List V) (ds : List (Int × Str)) (l : Addr) (H' : Hp), ds.Pairwise EnS.PLt → (∀ e, e ∈ ds ↔ e ∈ es) → ds.length ≤ es.length → EntL pimg H' ys ds → Same H H' → H l = none → H' l = some (.lst ys) → Q (.ref l) H'
theorem ok_checked_pairs (T : Txt K mg base) : FnOk P w K mg base CX0 (4 + 1) T.f_checked_pairs T.fd_checked_pairs ["place", "entries", "write", "size"] (sp_checked_pairs K) := by
  refine T.F_checked_pairs.ok sc_checked_pairs (fun vs H Q E h => ?_) (fun cdv A outer s H vs Q E hr h => ?_)
  · obtain ⟨pl, p, xs, es, z, n, rfl, _⟩ := h
    rfl
  · obtain ⟨pl, p, xs, es, z, n, rfl, al, hp, le, good, ents, ok, q⟩ := h
    refine ⟨_, (C8.pss_cut (ps_for PassesOwn.never rfl (EnT.pi_enumS (by rfl) T.z_enumerate (pa_cons (pe_call (ok_check_many T) (hr.mono (by first | decide | exact Nat.le_refl _)) (by rfl) T.g_check_many T.F_check_many.kp T.b_check_many .nil pass0 (pa_cons (pv 0) (pa_cons (pv 1) pa_nil))) pa_nil)) (pg_tup (by rfl) (pgs_cons (pg_name (i := 4) sc_checked_pairs.nd rfl (.inl rfl)) (pgs_cons (pg_name (i := 5) sc_checked_pairs.nd rfl (.inl rfl)) pgs_nil))) (pss_one (ps_if (pt_not (pt_val (pe_call (ok_is_pair T) (hr.mono (by first | decide | exact Nat.le_refl _)) (by rfl) T.g_is_pair T.F_is_pair.kp T.b_is_pair .nil pass0 (pa_cons (pv 5) (pa_cons (pv 2) (pa_cons (pv 3) pa_nil)))))) (pss_one ps_dead) pss_nil)))
      (pss_one (ps_ret (pe_callBK (SkF.cr_sortKey (kd_pair_key T) T.b_pair_key (hr.mono (by first | decide | exact Nat.le_refl _)) hr.units relP_same) (by rfl) T.z_sorted (by decide +kernel) (pa_cons (pe_callTy (call_list_dT rfl) (by rfl) T.z_list (by decide +kernel) (pa_cons (DcT.pe_dcT (own := [("entry", 5)]) (g := gName 5) (Nat.lt_of_le_of_lt (Nat.le_add_right _ 64) hr.units) rfl sc_checked_pairs.nd (EnT.pi_seq (pv 1)) (blkOk_by (N := ["place", "entries", "write", "size", "index", "entry"]) (sc := defScope s_checked_pairs) (by decide +kernel)) (fun _ _ _ _ _ => pg_name (i := 5) sc_checked_pairs.nd rfl (Or.inl rfl)) (fun _ _ _ _ _ => pts_nil) (fun _ _ _ _ _ => (pv 5)) (fun _ _ _ _ _ => pe_bl)) pa_nil)) pa_nil) (pk_cons (pe_glob (v := .ref T.f_pair_key) (by rfl) T.g_pair_key rfl) pk_nil))))), ?_⟩
    refine ⟨fun σ' H' => (∃ y y', σ' = [some (.str pl), some (.ref p), some (.str z), some (.int n), y, y']) ∧ Same H H', ?_, ?_⟩
    · refine ⟨_, rfl, _, rfl, pl, p, xs, rfl, hp, le, fun H1 s1 => ⟨p, xs, rfl, ?_⟩⟩
      refine for_enumS (hp.same s1).sq (fun i σ H' => (∃ y y', σ = [some (.str pl), some (.ref p), some (.str z), some (.int n), y, y']) ∧ Same H1 H') ⟨⟨_, _, rfl⟩, .refl _⟩ (fun i σ H' h => h.2) ?_ fun σ H' h => ⟨h.1, s1.trans h.2⟩
      rintro i x σ H' T hx ⟨⟨y, y', rfl⟩, s2⟩ nT
      have k := same_new (o := .tup [.int ((i : Nat) : Int), x]) nT
      have hT : (upd H' T (.tup [.int ((i : Nat) : Int), x])) T = some (.tup [.int ((i : Nat) : Int), x]) := upd_same
      generalize upd H' T (.tup [.int ((i : Nat) : Int), x]) = H2 at k hT ⊢
      have sm := (s1.trans s2).trans k
      obtain ⟨e, t, he, rfl, ht⟩ := ents.get hx
      obtain ⟨e0, e1, e2, e3⟩ := ok e (List.mem_of_getElem? he)
      have ht2 := sm _ _ ht
      have sv : Shal H2 (.ref t) := .inr (.inr (.inr (.inr ⟨t, _, rfl, .inr ht2⟩)))
      refine ⟨T, _, rfl, .inl (.inl hT), rfl, _, _, rfl, _, _, rfl, rfl, ?_⟩
      refine ⟨_, rfl, _, rfl, _, rfl, .ref t, z, n, rfl, al, sv, fun t' zs e' h' y hy => ?_, sm.good good, fun b H3 hb s3 => ⟨_, rfl, ?_⟩⟩
      · cases e'
        rw [ht2] at h'
        cases h'
        rcases List.mem_cons.mp hy with rfl | hy
        · exact shal_int
        · rw [List.mem_singleton.mp hy]
          exact shal_str (by omega)
      · have : b = true := hb.mpr ⟨t, e.1, e.2, rfl, ht2, e0, e1, e2, e3⟩
        subst this
        exact iteN rfl ⟨⟨_, _, rfl⟩, (s2.trans k).trans s3⟩
    rintro σ' H1 ⟨⟨y, y', rfl⟩, s1⟩
    have ents1 := ents.same s1
    dsimp only [tRet, tCKw, tCons, tCB]
    refine dct_ents (i := 5) (j := 1) (σ := [some (.str pl), some (.ref p), some (.str z), some (.int n), y, y']) ppk_inj (es := es) rfl (fun _ => rfl) (fun _ => rfl) (fun _ _ _ h => h) (fun _ _ _ h => h) (hp.same s1).sq (by omega) ents1 fun D H2 s2 nD hD => ?_
    refine ⟨D, _, rfl, .inl hD, fun l0 bs nl0 hk => ?_⟩
    have k3 := same_new (o := .lst (bs.map V.ref)) nl0
    have hl0 : (upd H2 l0 (.lst (bs.map V.ref))) l0 = some (.lst (bs.map V.ref)) := upd_same
    have ent3 : EntL pimg (upd H2 l0 (.lst (bs.map V.ref))) (bs.map V.ref) (onces es) := (ents_keys (pk := ppk) hk).same k3
    generalize upd H2 l0 (.lst (bs.map V.ref)) = H3 at k3 hl0 ent3 ⊢
    have dat := fun t e => pdec_at (H := H3) t e
    have of : ∀ v ∈ bs.map V.ref, ∃ e t, e ∈ onces es ∧ v = .ref t ∧ H3 t = some (.tup (pimg e)) := fun v hv => by
      obtain ⟨i, hi⟩ := List.getElem?_of_mem hv
      obtain ⟨e, t, he, ev, ht⟩ := ent3.get hi
      exact ⟨e, t, List.mem_of_getElem? he, ev, ht⟩
    refine ⟨l0, bs.map V.ref, fun v => EnS.pkey (pdec H3 v).1 (pdec H3 v).2, rfl, rfl, .inl (.inl hl0), fun v hv => ?_, fun d hd d' hd' => ?_, .inl fun d hd => ?_, fun v hv => EnS.depth_pkey _ _, fun l H4 s4 nl hl => ?_⟩
    · obtain ⟨e, t, he, rfl, ht⟩ := of v hv
      refine ⟨t, e.1, e.2, rfl, ht, ?_, by dsimp only; rw [dat t e ht]⟩
      have := (ok e ((onces_mem es e).mp he)).2.2.2
      omega
    · obtain ⟨v, _, rfl⟩ := List.mem_map.mp hd
      obtain ⟨v', _, rfl⟩ := List.mem_map.mp hd'
      exact EnS.alike_pkey _ _ _ _
    · obtain ⟨v, _, rfl⟩ := List.mem_map.mp hd
      exact ⟨_, _, rfl⟩
    · obtain ⟨e1, ent4⟩ := ent3.perm dat (List.mergeSort_perm (bs.map V.ref) (PySem.W.dataLe false fun v => EnS.pkey (pdec H3 v).1 (pdec H3 v).2))
      have nd : ((bs.map V.ref).map (pdec H3)).Nodup := by
        rw [← e1]
        exact onces_nodup es
      have pm := (List.mergeSort_perm (bs.map V.ref) (PySem.W.dataLe false fun v => EnS.pkey (pdec H3 v).1 (pdec H3 v).2)).map (pdec H3)
      rw [← e1] at pm
      refine q _ _ l H4 (sorted_strict (enc := fun e => EnS.pkey e.1 e.2) (dec := pdec H3) (fun e f => EnS.le_pkey) _ nd) (fun e => by rw [pm.mem_iff, onces_mem]) (by rw [pm.length_eq]; exact onces_len es) (ent4.same s4) (((s1.trans s2).trans k3).trans s4) (s1.free (s2.free (k3.free nl))) hl

def sp_Machine___init__ [Tabl] (C : Addr) (K : PySem.W.Frag) : Sp := fun vs H Q _ => ∃ (m dx : Addr) (r z : Str) (n : Int) (b a e : Addr) (bx ax ex : List V) (be : List (Int × Str)) (ae : List EnS.Arc) (ee : List (Int × Str)),
  vs = [.ref m, .str r, .str z, .int n, .ref b, .ref a, .ref e] ∧ H m = some (.ins C dx []) ∧ Good H ∧ IsAlpha r ∧ IsAlpha z ∧ 0 ≤ n ∧ n ≤ 64 ∧ Own.RowAt K H b bx ∧ Own.RowAt K H a ax ∧ Own.RowAt K H e ex ∧ bx.length ≤ 400 ∧ ax.length ≤ 400 ∧ ex.length ≤ 400 ∧
  EntL pimg H bx be ∧ EntL aimg H ax ae ∧ EntL pimg H ex ee ∧ (∀ e ∈ be, GoodP z n e) ∧ (∀ e ∈ ae, GoodA r z n e) ∧ (∀ e ∈ ee, GoodP z n e) ∧
  ∀ H' : Hp, But m H H' → Good H' → Mach C H' m r z n be ae ee → Young C H H' m → Q .non H'
theorem ok_Machine___init__ (T : Txt K mg base) : FnOk P w K mg base (L2.CX P w) (6 + 1) T.f_Machine___init__ T.fd_Machine___init__ ["self", "read", "write", "size", "begins", "arcs", "ends"] (sp_Machine___init__ T.C_Machine K) := by
  refine T.F_Machine___init__.okX sc_Machine___init__ (fun vs H Q E h => ?_) (fun cdv A outer s H vs Q E hr h => ?_)
  · obtain ⟨m, dx, r, z, n, b, a, e, bx, ax, ex, be, ae, ee, rfl, _⟩ := h
    rfl
  · obtain ⟨m, dx, r, z, n, b, a, e, bx, ax, ex, be, ae, ee, rfl, hm, good, ar, az, n0, n64, rb, ra, re, lb, la, le, eb, ea, eE, gb, ga, ge, q⟩ := h
    refine ⟨_, (pss_cons (ps_fld (pv 0) (pe_callS (ok_check_letters T) (hr.mono (by first | decide | exact Nat.le_refl _)) (by rfl) T.g_check_letters T.F_check_letters.kp T.b_check_letters (fun σ => passAt (takes_of rfl rfl rfl rfl) σ) (pa_cons (pv 1) pa_nil)) rfl)
      (pss_cons (ps_fld (pv 0) (pe_callS (ok_check_letters T) (hr.mono (by first | decide | exact Nat.le_refl _)) (by rfl) T.g_check_letters T.F_check_letters.kp T.b_check_letters (fun σ => passAt (takes_of rfl rfl rfl rfl) σ) (pa_cons (pv 2) pa_nil)) rfl)
      (pss_cons (ps_fld (pv 0) (pe_callS (ok_check_number T) (hr.mono (by first | decide | exact Nat.le_refl _)) (by rfl) T.g_check_number T.F_check_number.kp T.b_check_number (fun σ => passAt (takes_of rfl rfl rfl rfl) σ) (pa_cons (pv 3) (pa_cons pe_int (pa_cons (pe_glob (v := .int 64) (by rfl) T.c_MAX_STATES ⟨_, rfl⟩) pa_nil)))) rfl)
      (pss_cons (ps_fld (pv 0) (pe_call (ok_checked_pairs T) (hr.mono (by first | decide | exact Nat.le_refl _)) (by rfl) T.g_checked_pairs T.F_checked_pairs.kp T.b_checked_pairs .nil pass0 (pa_cons pe_str (pa_cons (pv 4) (pa_cons (pv 2) (pa_cons (pv 3) pa_nil))))) rfl)
      (pss_cons (ps_fld (pv 0) (pe_call (ok_checked_arcs T) (hr.mono (by first | decide | exact Nat.le_refl _)) (by rfl) T.g_checked_arcs T.F_checked_arcs.kp T.b_checked_arcs .nil pass0 (pa_cons (pv 5) (pa_cons (pv 1) (pa_cons (pv 2) (pa_cons (pv 3) pa_nil))))) rfl)
      (pss_one (ps_fld (pv 0) (pe_call (ok_checked_pairs T) (hr.mono (by first | decide | exact Nat.le_refl _)) (by rfl) T.g_checked_pairs T.F_checked_pairs.kp T.b_checked_pairs .nil pass0 (pa_cons pe_str (pa_cons (pv 6) (pa_cons (pv 2) (pa_cons (pv 3) pa_nil))))) rfl))))))), ?_⟩
    -- read, write, size
    refine ⟨_, rfl, .str r, rfl, shal_str (Nat.le_trans ar.len4 (by decide)), good, fun _ H1 s1 => ⟨_, rfl, m, _, dx, _, rfl, s1 _ _ hm, T.cl_Machine, T.no_Machine__read, by show 0 < 1000; decide, ?_⟩, fun no => (no ⟨_, rfl, ar⟩).elim⟩
    have B1 : But m H (upd H1 m (.ins T.C_Machine dx (putF "_read" (.str r) []))) := (But.same s1).trans (But.put (s1 _ _ hm))
    have h1 : (upd H1 m (.ins T.C_Machine dx (putF "_read" (.str r) []))) m = some (.ins T.C_Machine dx (putF "_read" (.str r) [])) := upd_same
    generalize upd H1 m (.ins T.C_Machine dx (putF "_read" (.str r) [])) = G1 at B1 h1 ⊢
    refine ⟨_, rfl, .str z, rfl, shal_str (Nat.le_trans az.len4 (by decide)), B1.good good, fun _ H2 s2 => ⟨_, rfl, m, _, dx, _, rfl, s2 _ _ h1, T.cl_Machine, T.no_Machine__write, Nat.lt_of_le_of_lt (lenF (k := 0) (Nat.le_refl _)) (by decide), ?_⟩, fun no => (no ⟨_, rfl, az⟩).elim⟩
    have B2 := B1.trans ((But.same s2).trans (But.put (o := .ins T.C_Machine dx (putF "_write" (.str z) (putF "_read" (.str r) []))) (s2 _ _ h1)))
    have h2 : (upd H2 m (.ins T.C_Machine dx (putF "_write" (.str z) (putF "_read" (.str r) [])))) m = some (.ins T.C_Machine dx (putF "_write" (.str z) (putF "_read" (.str r) []))) := upd_same
    generalize upd H2 m (.ins T.C_Machine dx (putF "_write" (.str z) (putF "_read" (.str r) []))) = G2 at B2 h2 ⊢
    have inr : inR (.int n) 0 64 = true := by
      show (decide (0 ≤ n) && decide (n ≤ 64)) = true
      rw [decide_eq_true n0, decide_eq_true n64]
      rfl
    refine ⟨_, rfl, .int n, 0, 64, rfl, shal_int, fun _ => ⟨_, rfl, m, _, dx, _, rfl, h2, T.cl_Machine, T.no_Machine__size, Nat.lt_of_le_of_lt (lenF (k := 1) (lenF (k := 0) (Nat.le_refl _))) (by decide), ?_⟩, fun no => by rw [inr] at no; cases no⟩
    have B3 := B2.trans (But.put (o := .ins T.C_Machine dx (putF "_size" (.int n) (putF "_write" (.str z) (putF "_read" (.str r) [])))) h2)
    have h3 : (upd G2 m (.ins T.C_Machine dx (putF "_size" (.int n) (putF "_write" (.str z) (putF "_read" (.str r) []))))) m = some (.ins T.C_Machine dx (putF "_size" (.int n) (putF "_write" (.str z) (putF "_read" (.str r) [])))) := upd_same
    generalize upd G2 m (.ins T.C_Machine dx (putF "_size" (.int n) (putF "_write" (.str z) (putF "_read" (.str r) [])))) = G3 at B3 h3 ⊢
    -- begins
    refine ⟨_, rfl, _, rfl, _, rfl, Str.ofString "begins", b, bx, be, z, n, rfl, az, RowAt.but B3 hm rb, lb, B3.good good, eb.but B3 hm, gb, fun by_ bd bl H4 pw1 me1 le1 en1 s4 nb hb => ?_⟩
    refine ⟨_, rfl, m, _, dx, _, rfl, s4 _ _ h3, T.cl_Machine, T.no_Machine__begins, Nat.lt_of_le_of_lt (lenF (k := 2) (lenF (k := 1) (lenF (k := 0) (Nat.le_refl _)))) (by decide), ?_⟩
    have t4 : Told pimg EnS.PLt H4 bl be := ⟨by_, bd, hb, en1, pw1, me1, le1, by have := eb.len; omega⟩
    have P4 := But.put (o := .ins T.C_Machine dx (putF "_begins" (.ref bl) (putF "_size" (.int n) (putF "_write" (.str z) (putF "_read" (.str r) []))))) (s4 _ _ h3)
    have B4 := B3.trans ((But.same s4).trans P4)
    have t4' := t4.but P4 (s4 _ _ h3)
    have h4 : (upd H4 m (.ins T.C_Machine dx (putF "_begins" (.ref bl) (putF "_size" (.int n) (putF "_write" (.str z) (putF "_read" (.str r) [])))))) m = some (.ins T.C_Machine dx (putF "_begins" (.ref bl) (putF "_size" (.int n) (putF "_write" (.str z) (putF "_read" (.str r) []))))) := upd_same
    generalize upd H4 m (.ins T.C_Machine dx (putF "_begins" (.ref bl) (putF "_size" (.int n) (putF "_write" (.str z) (putF "_read" (.str r) []))))) = G4 at B4 h4 t4' ⊢
    -- arcs
    refine ⟨_, rfl, _, rfl, _, rfl, _, rfl, a, ax, ae, r, z, n, rfl, ar, az, RowAt.but B4 hm ra, la, B4.good good, ea.but B4 hm, ga, fun ay ad al H5 pw2 me2 le2 en2 s5 na ha => ?_⟩
    refine ⟨_, rfl, m, _, dx, _, rfl, s5 _ _ h4, T.cl_Machine, T.no_Machine__arcs, Nat.lt_of_le_of_lt (lenF (k := 3) (lenF (k := 2) (lenF (k := 1) (lenF (k := 0) (Nat.le_refl _))))) (by decide), ?_⟩
    have t5 : Told aimg EnS.ALt H5 al ae := ⟨ay, ad, ha, en2, pw2, me2, le2, by have := ea.len; omega⟩
    have P5 := But.put (o := .ins T.C_Machine dx (putF "_arcs" (.ref al) (putF "_begins" (.ref bl) (putF "_size" (.int n) (putF "_write" (.str z) (putF "_read" (.str r) [])))))) (s5 _ _ h4)
    have Q5 := (But.same s5).trans P5
    have B5 := B4.trans Q5
    have t5' := t5.but P5 (s5 _ _ h4)
    have t45 := t4'.but Q5 h4
    have nba : bl ≠ al := fun e => by
      obtain ⟨_, _, hl, _⟩ := t4'
      rw [e, na] at hl
      cases hl
    have h5 : (upd H5 m (.ins T.C_Machine dx (putF "_arcs" (.ref al) (putF "_begins" (.ref bl) (putF "_size" (.int n) (putF "_write" (.str z) (putF "_read" (.str r) []))))))) m = some (.ins T.C_Machine dx (putF "_arcs" (.ref al) (putF "_begins" (.ref bl) (putF "_size" (.int n) (putF "_write" (.str z) (putF "_read" (.str r) [])))))) := upd_same
    generalize upd H5 m (.ins T.C_Machine dx (putF "_arcs" (.ref al) (putF "_begins" (.ref bl) (putF "_size" (.int n) (putF "_write" (.str z) (putF "_read" (.str r) [])))))) = G5 at B5 h5 t5' t45 ⊢
    -- ends
    refine ⟨_, rfl, _, rfl, _, rfl, Str.ofString "ends", e, ex, ee, z, n, rfl, az, RowAt.but B5 hm re, le, B5.good good, eE.but B5 hm, ge, fun ey ed el H6 pw3 me3 le3 en3 s6 ne he => ?_⟩
    refine ⟨_, rfl, m, _, dx, _, rfl, s6 _ _ h5, T.cl_Machine, T.no_Machine__ends, Nat.lt_of_le_of_lt (lenF (k := 4) (lenF (k := 3) (lenF (k := 2) (lenF (k := 1) (lenF (k := 0) (Nat.le_refl _)))))) (by decide), ?_⟩
    have t6 : Told pimg EnS.PLt H6 el ee := ⟨ey, ed, he, en3, pw3, me3, le3, by have := eE.len; omega⟩
    have P6 := But.put (o := .ins T.C_Machine dx (mfs r z n bl al el)) (s6 _ _ h5)
    have Q6 := (But.same s6).trans P6
    have nbe : bl ≠ el := fun e => by
      obtain ⟨_, _, hl, _⟩ := t45
      rw [e, ne] at hl
      cases hl
    have nae : al ≠ el := fun e => by
      obtain ⟨_, _, hl, _⟩ := t5'
      rw [e, ne] at hl
      cases hl
    refine q _ (B5.trans Q6) ((B5.trans Q6).good good) ⟨dx, bl, al, el, upd_same, t45.but Q6 h5, t5'.but Q6 h5, t6.but P6 (s6 _ _ h5), nba, nbe, nae⟩ (.of upd_same ?_ ?_ ?_)
    · exact B3.free nb fun z => by rw [z, h3] at nb; cases nb
    · exact B4.free na fun z => by rw [z, h4] at na; cases na
    · exact B5.free ne fun z => by rw [z, h5] at ne; cases ne
/-- C(read, write, size, begins=.., arcs=.., ends=..) -/
theorem make_machine [Tabl] {C : Addr} {K : PySem.W.Frag} {H : Hp} {Q : VK} {E : XK} {m dx : Addr} {r z : Str} {n : Int} {b a e : Addr} {be : List (Int × Str)} {ae : List EnS.Arc} {ee : List (Int × Str)} (nm : H m = none) (nd : H dx = none) (ne : dx ≠ m) (good : Good H) (g : GoodM r z n be ae ee)
    (rb : RowE K pimg H b be) (ra : RowE K aimg H a ae) (re : RowE K pimg H e ee) (q : ∀ H' : Hp, Same H H' → Good H' → Mach C H' m r z n be ae ee → Young C H H' m → Q .non H') :
    sp_Machine___init__ C K [.ref m, .str r, .str z, .int n, .ref b, .ref a, .ref e] (upd (upd H dx (.own m)) m (.ins C dx [])) Q E := by
  have s1 := same_new (o := .own m) nd
  have nm' : (upd H dx (.own m)) m = none := by
    rw [upd_ne (Ne.symm ne)]
    exact nm
  have s := s1.trans (same_new (o := .ins C dx []) nm')
  obtain ⟨bx, h1, h2, h3⟩ := rb.same s
  obtain ⟨ax, h4, h5, h6⟩ := ra.same s
  obtain ⟨ex, h7, h8, h9⟩ := re.same s
  exact ⟨m, dx, r, z, n, b, a, e, bx, ax, ex, be, ae, ee, rfl, upd_same, s.good good, g.ar, g.az, g.n0, g.n64, h1, h4, h7, h2, h5, h8, h3, h6, h9, g.gb, g.ga, g.ge, fun H' B gd M Y => q H' (But.made nm nd ne B) gd M (Y.back s)⟩

def sp_machine_of [Tabl] (C : Addr) (K : PySem.W.Frag) : Sp := fun vs H Q _ => ∃ (p : Addr) (r z : Str) (n : Int) (be : List (Int × Str)) (ae : List EnS.Arc) (ee : List (Int × Str)) (b a e : Addr) (bx ax ex : List V), vs = [.ref p] ∧ (SqL K H p [.str r, .str z, .int n, .ref b, .ref a, .ref e] ∨ SqT K H p [.str r, .str z, .int n, .ref b, .ref a, .ref e]) ∧ H b = some (.lst bx) ∧ H a = some (.lst ax) ∧ H e = some (.lst ex) ∧ GoodM r z n be ae ee ∧ bx.length ≤ 400 ∧ ax.length ≤ 400 ∧ ex.length ≤ 400 ∧ EntL pimg H bx be ∧ EntL aimg H ax ae ∧ EntL pimg H ex ee ∧ Good H ∧
  ∀ (m : Addr) (H' : Hp), Same H H' → H m = none → Mach C H' m r z n be ae ee → Young C H H' m → Q (.ref m) H'
theorem ok_machine_of (T : Txt K mg base) : FnOk P w K mg base CX0 (8 + 1) T.f_machine_of T.fd_machine_of ["parts"] (sp_machine_of T.C_Machine K) := by
  refine T.F_machine_of.ok sc_machine_of (fun vs H Q E h => ?_) (fun cdv A outer s H vs Q E hr h => ?_)
  · obtain ⟨p, r, z, n, be, ae, ee, b, a, e, bx, ax, ex, rfl, _⟩ := h
    rfl
  · obtain ⟨p, r, z, n, be, ae, ee, b, a, e, bx, ax, ex, rfl, hp, hb, ha, he, ⟨ar, az, n0, n64, gb, ga, ge⟩, lb, la, le, eb, ea, eE, good, q⟩ := h
    refine ⟨_, (pss_one (ps_ret (pe_makeK T.M_Machine (ok_Machine___init__ T) (hr.mono (by first | decide | exact Nat.le_refl _)) (by rfl) T.mg_Machine T.kb_Machine_0 passL (pa_cons (pe_ix ix_seq (pv 0) pe_int (fun _ _ => rfl)) (pa_cons (pe_ix ix_seq (pv 0) pe_int (fun _ _ => rfl)) (pa_cons (pe_ix ix_seq (pv 0) pe_int (fun _ _ => rfl)) pa_nil))) (pk_cons (pe_callTy call_list_of (by rfl) T.z_list (by decide +kernel) (pa_cons (pe_ix ix_seq (pv 0) pe_int (fun _ _ => rfl)) pa_nil)) (pk_cons (pe_callTy call_list_of (by rfl) T.z_list (by decide +kernel) (pa_cons (pe_ix ix_seq (pv 0) pe_int (fun _ _ => rfl)) pa_nil)) (pk_cons (pe_callTy call_list_of (by rfl) T.z_list (by decide +kernel) (pa_cons (pe_ix ix_seq (pv 0) pe_int (fun _ _ => rfl)) pa_nil)) pk_nil)))))), ?_⟩
    refine ⟨_, rfl, ix_any hp rfl ⟨_, rfl, ix_any hp rfl ⟨_, rfl, ix_any hp rfl ⟨_, rfl, ix_any hp rfl ⟨b, bx, rfl, .inl (.inl (.inl hb)), fun l1 q1 => ?_⟩⟩⟩⟩⟩
    have k1 := same_new (o := .lst bx) q1
    have h1 : (upd H l1 (.lst bx)) l1 = some (.lst bx) := upd_same
    generalize upd H l1 (.lst bx) = H1 at k1 h1 ⊢
    refine ⟨_, rfl, ix_any (sq_same k1 hp) rfl ⟨a, ax, rfl, .inl (.inl (.inl (k1 _ _ ha))), fun l2 q2 => ?_⟩⟩
    have k2 := same_new (o := .lst ax) q2
    have h2 : (upd H1 l2 (.lst ax)) l2 = some (.lst ax) := upd_same
    generalize upd H1 l2 (.lst ax) = H2 at k2 h2 ⊢
    have k12 := k1.trans k2
    refine ⟨_, rfl, ix_any (sq_same k12 hp) rfl ⟨e, ex, rfl, .inl (.inl (.inl (k12 _ _ he))), fun l3 q3 => ?_⟩⟩
    have k3 := same_new (o := .lst ex) q3
    have h3 : (upd H2 l3 (.lst ex)) l3 = some (.lst ex) := upd_same
    generalize upd H2 l3 (.lst ex) = H3 at k3 h3 ⊢
    have k13 := k12.trans k3
    refine ⟨rfl, rfl, fun m dx nm nd ne => ?_⟩
    have s1 := same_new (o := .own m) nd
    have nm' : (upd H3 dx (.own m)) m = none := by
      rw [upd_ne (Ne.symm ne)]
      exact nm
    have s4 := k13.trans (s1.trans (same_new (o := .ins T.C_Machine dx []) nm'))
    have t4 := s1.trans (same_new (o := .ins T.C_Machine dx []) nm')
    refine ⟨m, dx, r, z, n, l1, l2, l3, bx, ax, ex, be, ae, ee, rfl, upd_same, s4.good good, ar, az, n0, n64, .inl (t4 _ _ (k3 _ _ (k2 _ _ h1))), .inl (t4 _ _ (k3 _ _ h2)), .inl (t4 _ _ h3), lb, la, le, eb.same s4, ea.same s4, eE.same s4, gb, ga, ge, fun H' B g M Y => ⟨rfl, ?_⟩⟩
    exact q m H' (k13.trans (But.made nm nd ne B)) (k13.free nm) M (Y.back s4)

def sp_joined [Tabl] (_ : PySem.W.Frag) : Sp := fun vs H Q _ => ∃ (p : Addr) (xs : List V) (rows : List (List Str)), vs = [.ref p] ∧ H p = some (.lst xs) ∧ TextRows H xs rows ∧ rows.length ≤ 1300 ∧ (∀ ws ∈ rows, ws.length ≤ 10 ∧ ∀ y ∈ ws, y.length ≤ 500) ∧
  ∀ H' : Hp, Same H H' → Q (.str (Txt.join (Str.ofString "\n") (rows.map (Txt.join (Str.ofString " "))))) H'
theorem ok_joined (T : Txt K mg base) : FnOk P w K mg base CX0 (0 + 1) T.f_joined T.fd_joined ["rows"] (sp_joined K) := by
  refine T.F_joined.ok sc_joined (fun vs H Q E h => ?_) (fun cdv A outer s H vs Q E hr h => ?_)
  · obtain ⟨p, xs, rows, rfl, _⟩ := h
    rfl
  · obtain ⟨p, xs, rows, rfl, hp, tr, lr, lw, q⟩ := h
    refine ⟨_, (pss_one (ps_ret (pe_join pe_str (pe_lc (own := [("row", 1)]) (g := gName 1) rfl sc_joined.nd (pi_list (pv 0)) (blkOk_by (N := ["rows", "row"]) (sc := defScope s_joined) (by decide +kernel)) (fun _ _ _ _ _ => pg_name (i := 1) sc_joined.nd rfl (Or.inl rfl)) (fun _ _ _ _ _ => pts_nil) (fun _ _ _ _ _ => (pe_joinK K rfl pe_str (pv 1))))))), ?_⟩
    have sp : (Str.ofString " ").length = 1 := by decide +kernel
    have nl : (Str.ofString "\n").length = 1 := by decide +kernel
    have row : ∀ ws ∈ rows, (ws.map (·.length)).sum + ws.length * (Str.ofString " ").length ≤ 5010 := fun ws m => by
      obtain ⟨l10, each⟩ := lw ws m
      have := sum_many 500 ws each
      rw [sp]
      omega
    refine ⟨⟨_, rfl⟩, _, rfl, p, rfl, ⟨_, .inl (.inl hp)⟩, fun D nD => ?_⟩
    have pD : p ≠ D := fun e => by rw [← e, hp] at nD; cases nD
    have k1 := same_new (o := .lst []) nD
    refine lc_list (K := K) (a := p) (xs := xs) (fun i H' => Same H H' ∧ H' D = some (.lst (((rows.take i).map (Txt.join (Str.ofString " "))).map V.str)))
      ⟨k1, upd_same⟩ (fun i H' _ h => .inl (.inl (h.1 _ _ hp))) ?_ ?_
    · rintro i v H2 hv ⟨s2, hD2⟩
      have ix := (List.getElem?_eq_some_iff.mp hv).1
      rw [tr.len] at ix
      obtain ⟨d, e1, hd⟩ := tr.get i _ (List.getElem?_eq_getElem ix)
      have mw : rows[i] ∈ rows := List.getElem_mem ix
      have e1 := hv.symm.trans e1
      cases e1
      refine ⟨rfl, ⟨_, rfl⟩, _, rfl, Str.ofString " ", d, rows[i], rfl, rfl, .inl (.inl (.inl (s2 _ _ hd))), Nat.le_trans (row _ mw) (by decide), _, hD2, ?_, Same.grown (.refl H) nD s2 hD2, ?_⟩
      · simp only [List.length_map, List.length_take]
        exact Nat.lt_of_le_of_lt (by omega : _ ≤ 1300) (by decide)
      · rw [upd_same, List.take_add_one, List.getElem?_eq_getElem ix]
        simp only [List.map_append, Option.toList, List.map_cons, List.map_nil]
    · rintro H2 ⟨s2, hD2⟩
      rw [tr.len, List.take_length] at hD2
      refine ⟨Str.ofString "\n", D, _, rfl, rfl, .inl (.inl (.inl hD2)), ?_, q _ s2⟩
      have := sum_many 5010 (rows.map (Txt.join (Str.ofString " "))) fun y m => by
        obtain ⟨ws, mw, rfl⟩ := List.mem_map.mp m
        exact Nat.le_trans (join_len _ ws) (row ws mw)
      rw [List.length_map] at this ⊢
      rw [nl]
      omega

def sp_shown (_ : PySem.W.Frag) : Sp := fun vs H Q _ => ∃ x : Str, vs = [.str x] ∧ x.length ≤ 1000000 ∧ (x ≠ Str.ofString "" → Q (.str x) H) ∧ (x = Str.ofString "" → Q (.str (Str.ofString "-")) H)
theorem ok_shown (T : Txt K mg base) : FnOk P w K mg base CX0 (0 + 1) T.f_shown T.fd_shown ["word"] (sp_shown K) := by
  refine T.F_shown.ok sc_shown (fun vs H Q E h => ?_) (fun cdv A outer s H vs Q E hr h => ?_)
  · obtain ⟨x, rfl, _⟩ := h
    rfl
  · obtain ⟨x, rfl, lx, q1, q2⟩ := h
    refine ⟨_, (pss_cons (ps_if (pt_cmpR op_eq (pv 0) pe_str (nomark _)) (pss_one (ps_ret pe_str)) pss_nil)
      (pss_one (ps_ret (pv 0)))), ?_⟩
    by_cases e : x = Str.ofString ""
    · exact ⟨_, rfl, rfl, _, rfl, iteC (decide_eq_true (by rw [e])) (q2 e)⟩
    · exact ⟨_, rfl, rfl, _, rfl, iteN (decide_eq_false (fun h => e (by injection h))) ⟨_, rfl, q1 e⟩⟩

def sp_entry_key [Tabl] (_ : PySem.W.Frag) : Sp := fun vs H Q _ => (∃ (t : Addr) (i : Int) (x : Str), vs = [.ref t] ∧ H t = some (.tup [.int i, .str x]) ∧ x.length ≤ 1000000 ∧ ∀ (p : Addr) (H' : Hp), Same H H' → H p = none → H' p = some (.tup [.int i, .str (Str.ofString ""), .int (x.length : Nat), .str x, .int 0]) → Q (.ref p) H') ∨
  (∃ (t : Addr) (i : Int) (l x : Str) (j : Int), vs = [.ref t] ∧ H t = some (.tup [.int i, .str l, .str x, .int j]) ∧ x.length ≤ 1000000 ∧ ∀ (p : Addr) (H' : Hp), Same H H' → H p = none → H' p = some (.tup [.int i, .str l, .int (x.length : Nat), .str x, .int j]) → Q (.ref p) H')
theorem ok_entry_key (T : Txt K mg base) : FnOk P w K mg base CX0 (0 + 1) T.f_entry_key T.fd_entry_key ["entry"] (sp_entry_key K) := by
  refine T.F_entry_key.ok sc_entry_key (fun vs H Q E h => ?_) (fun cdv A outer s H vs Q E hr h => ?_)
  · obtain ⟨t, i, x, rfl, _⟩ | ⟨t, i, l, x, j, rfl, _⟩ := h <;> rfl
  · refine ⟨_, (pss_cons (ps_if (pt_cmpR op_eq (pe_callB call_len_seq (by rfl) T.z_len PySem.boot_len (pa_cons (pv 0) pa_nil)) pe_int (nomark _)) (pss_one (ps_ret (pe_tup (pa_cons (pe_ix ix_tup (pv 0) pe_int (fun _ _ => rfl)) (pa_cons pe_str (pa_cons (pe_callB call_len_str (by rfl) T.z_len PySem.boot_len (pa_cons (pe_ix ix_tup (pv 0) pe_int (fun _ _ => rfl)) pa_nil)) (pa_cons (pe_ix ix_tup (pv 0) pe_int (fun _ _ => rfl)) (pa_cons pe_int pa_nil)))))))) pss_nil)
      (pss_one (ps_ret (pe_tup (pa_cons (pe_ix ix_tup (pv 0) pe_int (fun _ _ => rfl)) (pa_cons (pe_ix ix_tup (pv 0) pe_int (fun _ _ => rfl)) (pa_cons (pe_callB call_len_str (by rfl) T.z_len PySem.boot_len (pa_cons (pe_ix ix_tup (pv 0) pe_int (fun _ _ => rfl)) pa_nil)) (pa_cons (pe_ix ix_tup (pv 0) pe_int (fun _ _ => rfl)) (pa_cons (pe_ix ix_tup (pv 0) pe_int (fun _ _ => rfl)) pa_nil))))))))), ?_⟩
    rcases h with ⟨t, i, x, rfl, ht, sx, q⟩ | ⟨t, i, l, x, j, rfl, ht, sx, q⟩
    · refine ⟨_, rfl, t, _, rfl, .inr (.inl (.inl ht)), rfl, _, rfl, iteC (decide_eq_true rfl) ?_⟩
      refine ⟨_, rfl, _, _, _, _, rfl, rfl, .inl (.inl ht), rfl, _, rfl, _, _, _, _, rfl, rfl, .inl (.inl ht), rfl, _, rfl, small_text sx, _, rfl, _, _, _, _, rfl, rfl, .inl (.inl ht), rfl, by show 5 ≤ sizeLine; decide, fun p np => q p _ (same_new np) np upd_same⟩
    · refine ⟨_, rfl, t, _, rfl, .inr (.inl (.inl ht)), rfl, _, rfl, iteN (decide_eq_false (by intro z; injection z with z; revert z; show ¬ ((4 : Nat) : Int) = 2; omega)) ?_⟩
      refine ⟨_, rfl, _, _, _, _, rfl, rfl, .inl (.inl ht), rfl, _, rfl, _, _, _, _, rfl, rfl, .inl (.inl ht), rfl, _, rfl, _, _, _, _, rfl, rfl, .inl (.inl ht), rfl, _, rfl, small_text sx, _, rfl, _, _, _, _, rfl, rfl, .inl (.inl ht), rfl, _, rfl, _, _, _, _, rfl, rfl, .inl (.inl ht), rfl, by show 5 ≤ sizeLine; decide, fun p np => q p _ (same_new np) np upd_same⟩
theorem kd_entry_key (T : Txt K mg base) : FnOk P w K mg base CX0 (0 + 1) T.f_entry_key T.fd_entry_key ["entry"] (SkF.spKeyD K relE) := (ok_entry_key T).imp fun vs H Q E ⟨x, d, e, h, q⟩ => by
  rcases h with ⟨t, i, y, ex, ht, l, ed⟩ | ⟨t, i, l, y, j, ex, ht, le, ed⟩
  · subst ex
    subst ed
    exact .inl ⟨t, i, y, e, ht, l, fun p H' s _ h => q _ H' s (.tup (.inl (.inl h)) (.cons (.int _) (.cons (.str _) (.cons (.int _) (.cons (.str _) (.cons (.int _) .nil))))))⟩
  · subst ex
    subst ed
    exact .inr ⟨t, i, l, y, j, e, ht, le, fun p H' s _ h => q _ H' s (.tup (.inl (.inl h)) (.cons (.int _) (.cons (.str _) (.cons (.int _) (.cons (.str _) (.cons (.int _) .nil))))))⟩

/-- parts told: the rows at b, a, e hold each entry once, in order -/
structure Tidy (H : Hp) (t : Addr) (r z : Str) (n : Int) (be : List (Int × Str)) (ae : List EnS.Arc) (ee : List (Int × Str)) (b a e : Addr) (bx ax ex : List V) (bd : List (Int × Str)) (ad : List EnS.Arc) (ed : List (Int × Str)) : Prop where
  tup : H t = some (.tup [.str r, .str z, .int n, .ref b, .ref a, .ref e])
  hb : H b = some (.lst bx)
  ha : H a = some (.lst ax)
  he : H e = some (.lst ex)
  nb : EntL pimg H bx bd
  na : EntL aimg H ax ad
  ne : EntL pimg H ex ed
  pb : bd.Pairwise EnS.PLt
  pa : ad.Pairwise EnS.ALt
  pe : ed.Pairwise EnS.PLt
  mb : ∀ x, x ∈ bd ↔ x ∈ be
  ma : ∀ x, x ∈ ad ↔ x ∈ ae
  me : ∀ x, x ∈ ed ↔ x ∈ ee
  lb : bd.length ≤ be.length
  la : ad.length ≤ ae.length
  le : ed.length ≤ ee.length
/-- a row in a list, its entries as keys -/
def RowK (H : Hp) (d : Addr) (ks : List (List L2.Key)) (p : Bool) : Prop := ∃ ys gs, H d = some (.lst ys) ∧ EntL kimg H ys gs ∧ gs.length ≤ ks.length ∧ (∀ e, e ∈ gs ↔ e ∈ ks) ∧
  ((p = true ∧ ∃ ds : List (Int × Str), gs = ds.map ppk ∧ ds.Pairwise EnS.PLt) ∨ (p = false ∧ ∃ ds : List EnS.Arc, gs = ds.map apk ∧ ds.Pairwise EnS.ALt))
theorem RowK.same [Tabl] {H H' : Hp} {d : Addr} {ks : List (List L2.Key)} {p : Bool} (h : RowK H d ks p) (s : Same H H') : RowK H' d ks p := by
  obtain ⟨ys, gs, h1, h2, h3⟩ := h
  exact ⟨ys, gs, s _ _ h1, h2.same s, h3⟩
theorem RowK.put [Tabl] {H : Hp} {d W : Addr} {ks : List (List L2.Key)} {p : Bool} {us zs : List V} (h : RowK H d ks p) (ne : d ≠ W) (hW : H W = some (.lst us)) : RowK (upd H W (.lst zs)) d ks p := by
  obtain ⟨ys, gs, h1, h2, h3⟩ := h
  exact ⟨ys, gs, by rw [upd_ne ne]; exact h1, h2.butN (But.put hW) (fun zs e => by rw [hW] at e; cases e), h3⟩
def sp_tidy [Tabl] (K : PySem.W.Frag) : Sp := fun vs H Q _ => ∃ (p : Addr) (r z : Str) (n : Int) (be : List (Int × Str)) (ae : List EnS.Arc) (ee : List (Int × Str)) (b a e : Addr) (bx ax ex : List V), vs = [.ref p] ∧ (SqL K H p [.str r, .str z, .int n, .ref b, .ref a, .ref e] ∨ SqT K H p [.str r, .str z, .int n, .ref b, .ref a, .ref e]) ∧ IsAlpha r ∧ IsAlpha z ∧
  H b = some (.lst bx) ∧ H a = some (.lst ax) ∧ H e = some (.lst ex) ∧ bx.length ≤ 1000 ∧ ax.length ≤ 1000 ∧ ex.length ≤ 1000 ∧ EntL pimg H bx be ∧ EntL aimg H ax ae ∧ EntL pimg H ex ee ∧ (∀ x ∈ be, Over z x.2 ∧ x.2.length ≤ 400) ∧ (∀ x ∈ ae, Over r x.2.1 ∧ Over z x.2.2.1 ∧ x.2.2.1.length ≤ 400) ∧ (∀ x ∈ ee, Over z x.2 ∧ x.2.length ≤ 400) ∧
  ∀ (t b' a' e' : Addr) (bx' ax' ex' : List V) (bd : List (Int × Str)) (ad : List EnS.Arc) (ed : List (Int × Str)) (H' : Hp), Same H H' → H t = none → Tidy H' t r z n be ae ee b' a' e' bx' ax' ex' bd ad ed → Q (.ref t) H'
theorem ok_tidy (T : Txt K mg base) : FnOk P w K mg base CX0 (2 + 1) T.f_tidy T.fd_tidy ["parts"] (sp_tidy K) := by
  refine T.F_tidy.ok sc_tidy (fun vs H Q E h => ?_) (fun cdv A outer st H vs Q E hr h => ?_)
  · obtain ⟨p, r, z, n, be, ae, ee, b, a, e, bx, ax, ex, rfl, _⟩ := h
    rfl
  · obtain ⟨p, r, z, n, be, ae, ee, b, a, e, bx, ax, ex, rfl, hp, ar, az, hb, ha, he, lb, la, le, eb, ea, eE, gb, ga, ge, q⟩ := h
    have s := st
    refine ⟨_, (pss_cons (ps_set (i := 1) sc_tidy.nd rfl (.inl rfl) (pe_lst pa_nil))
      (C8.pss_cut (ps_for PassesOwn.never rfl (pi_range1 (by rfl) T.z_range (pa_cons pe_int pa_nil)) (pg_name (i := 2) sc_tidy.nd rfl (.inl rfl)) (pss_cons (ps_set (i := 3) sc_tidy.nd rfl (.inl rfl) (pe_lst pa_nil))
      (C8.pss_cut (ps_for PassesOwn.never rfl (pi_list (pe_ix ix_seq (pv 0) (pe_op op_add pe_int (pv 2)) (fun _ _ => rfl))) (pg_name (i := 4) sc_tidy.nd rfl (.inl rfl)) (pss_one (ps_if (pt_cmpR (op_notInD (units65 hr)) (pv 4) (pv 3) rfl) (pss_one (ps_expr (pe_bm PySem.F.plainAttrs_list PySem.F.slot_list_append PySem.F.type_list_append mt_append (pv 3) (pa_cons (pv 4) pa_nil)))) pss_nil)))
      (pss_one (ps_expr (pe_bm PySem.F.plainAttrs_list PySem.F.slot_list_append PySem.F.type_list_append mt_append (pv 1) (pa_cons (pe_callBK (SkF.cr_sortKey (kd_entry_key T) T.b_entry_key (hr.mono (by first | decide | exact Nat.le_refl _)) hr.units relE_same) (by rfl) T.z_sorted (by decide +kernel) (pa_cons (pv 3) pa_nil) (pk_cons (pe_glob (v := .ref T.f_entry_key) (by rfl) T.g_entry_key rfl) pk_nil)) pa_nil)))))))
      (pss_one (ps_ret (pe_tup (pa_cons (pe_ix ix_seq (pv 0) pe_int (fun _ _ => rfl)) (pa_cons (pe_ix ix_seq (pv 0) pe_int (fun _ _ => rfl)) (pa_cons (pe_ix ix_seq (pv 0) pe_int (fun _ _ => rfl)) (pa_cons (pe_ix ix_list (pv 1) pe_int (fun _ _ => rfl)) (pa_cons (pe_ix ix_list (pv 1) pe_int (fun _ _ => rfl)) (pa_cons (pe_ix ix_list (pv 1) pe_int (fun _ _ => rfl)) pa_nil))))))))))), ?_⟩
    clear s
    refine ⟨by show 0 ≤ sizeLine; decide, fun R nR => ?_⟩
    have k1 := same_new (o := .lst []) nR
    have hR : (upd H R (.lst [])) R = some (.lst []) := upd_same
    generalize upd H R (.lst []) = H1 at k1 hR ⊢
    have row : ∀ i : Nat, i < 3 → ∃ l xs ks, atI [V.str r, .str z, .int n, .ref b, .ref a, .ref e] (3 + (0 + (i : Int))) = some (.ref l) ∧ H l = some (.lst xs) ∧ xs.length ≤ 1000 ∧ EntL kimg H xs ks ∧ [be.map ppk, ae.map apk, ee.map ppk][i]? = some ks ∧ (∀ k ∈ ks, SeqAt.shaped (kdata k) = true) := fun i hi => by
      obtain rfl | rfl | rfl : i = 0 ∨ i = 1 ∨ i = 2 := by omega
      · exact ⟨b, bx, _, rfl, hb, lb, eb.keys ppk fun _ => rfl, rfl, fun k m => by obtain ⟨x, hx, rfl⟩ := List.mem_map.mp m; exact shaped_p az (gb x hx).1⟩
      · exact ⟨a, ax, _, rfl, ha, la, ea.keys apk fun _ => rfl, rfl, fun k m => by obtain ⟨x, hx, rfl⟩ := List.mem_map.mp m; exact shaped_a ar az (ga x hx).1 (ga x hx).2.1⟩
      · exact ⟨e, ex, _, rfl, he, le, eE.keys ppk fun _ => rfl, rfl, fun k m => by obtain ⟨x, hx, rfl⟩ := List.mem_map.mp m; exact shaped_p az (ge x hx).1⟩
    refine ⟨fun σ' H' => (∃ y1 y2 y3 : Option V, σ' = [some (.ref p), some (.ref R), y1, y2, y3]) ∧ Same H H' ∧ ∃ d1 d2 d3, H' R = some (.lst [.ref d1, .ref d2, .ref d3]) ∧ RowK H' d1 (be.map ppk) true ∧ RowK H' d2 (ae.map apk) false ∧ RowK H' d3 (ee.map ppk) true, ?_, ?_⟩
    · refine ⟨3, rfl, by decide, by decide, ?_⟩
      refine for_range (lo := 0) (n := 3) (fun i σ H' => (∃ y1 y2 y3 : Option V, σ = [some (.ref p), some (.ref R), y1, y2, y3]) ∧ Same H H' ∧ ∃ ps : List Addr, H' R = some (.lst (ps.map V.ref)) ∧ ps.length = i ∧ ∀ (j : Nat) (d : Addr) (ks : List (List L2.Key)), ps[j]? = some d → [be.map ppk, ae.map apk, ee.map ppk][j]? = some ks → d ≠ R ∧ RowK H' d ks (decide (j ≠ 1)))
        ⟨⟨_, _, _, rfl⟩, k1, [], hR, rfl, fun j d ks e => by cases e⟩ ?_ ?_
      · rintro i σ H2 hi ⟨⟨y1, y2, y3, rfl⟩, s2, ps, hR2, lps, each⟩
        obtain ⟨l, xs, ks, hat, hl, lx, en, hks, sh⟩ := row i hi
        refine ⟨by show 0 ≤ sizeLine; decide, fun W nW => ?_⟩
        have k3 := same_new (o := .lst []) nW
        have hW : (upd H2 W (.lst [])) W = some (.lst []) := upd_same
        have WR : W ≠ R := fun e => by rw [e, hR2] at nW; cases nW
        have hR3 := k3 _ _ hR2
        generalize upd H2 W (.lst []) = H3 at k3 hW hR3 ⊢
        have s23 := s2.trans k3
        have nW2 : H W = none := s2.free nW
        refine ⟨fun σ' H' => (∃ y3 : Option V, σ' = [some (.ref p), some (.ref R), some (.int (0 + (i : Int))), some (.ref W), y3]) ∧ Same H2 H' ∧ ∃ ys gs, H' W = some (.lst ys) ∧ EntL kimg H' ys gs ∧ gs.Nodup ∧ (∀ e, e ∈ gs ↔ e ∈ ks) ∧ gs.length ≤ ks.length, ?_, ?_⟩
        · refine ⟨_, rfl, _, rfl, _, _, rfl, rfl, ix_any (sq_same s23 hp) hat ⟨l, rfl, ⟨_, .inl (.inl (s23 _ _ hl))⟩, for_list (K := K) (a := l) (xs := xs) (fun j σ H' => (∃ y3 : Option V, σ = [some (.ref p), some (.ref R), some (.int (0 + (i : Int))), some (.ref W), y3]) ∧ Same H2 H' ∧ ∃ ys gs, H' W = some (.lst ys) ∧ EntL kimg H' ys gs ∧ gs.Nodup ∧ (∀ e, e ∈ gs ↔ e ∈ ks.take j) ∧ gs.length ≤ j)
            ⟨⟨_, rfl⟩, k3, [], [], hW, .nil, List.nodup_nil, fun e => by simp, Nat.le_refl _⟩ (fun j σ H' _ h => .inl (.inl (h.2.1 _ _ (s2 _ _ hl)))) ?_ ?_⟩⟩
          · rintro j v σ H4 hv ⟨⟨y3, rfl⟩, s4, ys, gs, hW4, en4, nd, gm, gl⟩
            obtain ⟨f, t, hf, rfl, ht⟩ := en.get hv
            have ht4 := s4 _ _ (s2 _ _ ht)
            have fm := List.mem_of_getElem? hf
            have jx := (List.getElem?_eq_some_iff.mp hv).1
            have shg : ∀ g ∈ gs, SeqAt.shaped (kdata g) = true := fun g m => sh g (List.mem_of_mem_take ((gm g).mp m))
            have tk : ks.take (j + 1) = ks.take j ++ [f] := by rw [List.take_add_one, hf]; rfl
            refine ⟨_, rfl, _, rfl, kdata f, gs.map kdata, dp_kdata ht4, .lst (.inl (.inl hW4)) (dp_klist en4), sh f fm, shaped_klist shg, _, rfl, ?_⟩
            by_cases m : f ∈ gs
            · refine iteN (by rw [any_kdata_yes m]; rfl) ⟨⟨_, rfl⟩, s4, ys, gs, hW4, en4, nd, fun e => ?_, by omega⟩
              rw [tk, List.mem_append, ← gm]
              exact ⟨.inl, fun h => h.elim id fun h => by rw [List.mem_singleton.mp h]; exact m⟩
            · refine iteC (by rw [any_kdata_no m]; rfl) ⟨_, rfl, .inl ⟨rfl, _, .inl (.inl hW4)⟩, _, rfl, W, _, _, rfl, rfl, hW4, by rw [en4.len]; exact Nat.lt_of_le_of_lt (by omega : gs.length ≤ 1000) (by decide), ⟨_, rfl⟩, Same.grown (.refl H2) nW s4 hW4, _, gs ++ [f], upd_same, (en4.snoc ht4).butN (But.put hW4) (fun zs e => by rw [hW4] at e; cases e), ?_, fun e => ?_, by rw [List.length_append]; exact Nat.succ_le_succ gl⟩
              · exact List.nodup_append.mpr ⟨nd, List.pairwise_singleton .., fun x hx y hy e => m (by rw [← List.mem_singleton.mp hy, ← e]; exact hx)⟩
              · rw [tk, List.mem_append, List.mem_append, gm]
          · rintro σ H4 ⟨⟨y3, rfl⟩, s4, ys, gs, hW4, en4, nd, gm, gl⟩
            have lk := en.len
            exact ⟨⟨_, rfl⟩, s4, ys, gs, hW4, en4, nd, fun e => by rw [gm, List.take_of_length_le (by omega)], by omega⟩
        rintro σ' H4 ⟨⟨y3, rfl⟩, s4, ys, gs, hW4, en4, nd, gm, gl⟩
        have hR4 := s4 _ _ hR2
        have srt : ∃ key zs, (∀ x ∈ ys, relE H4 x (key x)) ∧ PySem.W.AllAlike (ys.map key) ∧ PySem.W.Sortable (ys.map key) ∧ (∀ x ∈ ys, (key x).depth ≤ 16) ∧ EntL kimg H4 (ys.mergeSort (PySem.W.dataLe false key)) zs ∧ zs.length ≤ ks.length ∧ (∀ e, e ∈ zs ↔ e ∈ ks) ∧
            ((decide (i ≠ 1) = true ∧ ∃ ds : List (Int × Str), zs = ds.map ppk ∧ ds.Pairwise EnS.PLt) ∨ (decide (i ≠ 1) = false ∧ ∃ ds : List EnS.Arc, zs = ds.map apk ∧ ds.Pairwise EnS.ALt)) := by
          have pairs : ∀ es : List (Int × Str), ks = es.map ppk → (∀ x ∈ es, x.2.length ≤ 400) → decide (i ≠ 1) = true → ∃ key zs, (∀ x ∈ ys, relE H4 x (key x)) ∧ PySem.W.AllAlike (ys.map key) ∧ PySem.W.Sortable (ys.map key) ∧ (∀ x ∈ ys, (key x).depth ≤ 16) ∧ EntL kimg H4 (ys.mergeSort (PySem.W.dataLe false key)) zs ∧ zs.length ≤ ks.length ∧ (∀ e, e ∈ zs ↔ e ∈ ks) ∧ ((decide (i ≠ 1) = true ∧ ∃ ds : List (Int × Str), zs = ds.map ppk ∧ ds.Pairwise EnS.PLt) ∨ (decide (i ≠ 1) = false ∧ ∃ ds : List EnS.Arc, zs = ds.map apk ∧ ds.Pairwise EnS.ALt)) := fun es ek bd di => by
            subst ek
            obtain ⟨fs, rfl, fm⟩ := exists_map (pk := ppk) (es := es) (gs := gs) fun g m => (gm g).mp m
            have nd2 : fs.Nodup := (List.pairwise_map.mp nd).imp fun {x y} h e => h (by rw [e])
            obtain ⟨key, ds, SE⟩ := SortE.pairs (en4.unkeys (img := pimg) fun _ => rfl) nd2 fun e m => bd e (fm e m)
            exact ⟨key, ds.map ppk, SE.rel, SE.al, SE.so, SE.dp, SE.ent.keys ppk fun _ => rfl, by rw [List.length_map, SE.len]; rw [List.length_map] at gl; exact gl, fun e => by rw [← gm]; exact mem_map_inj SE.mem e, .inl ⟨di, ds, rfl, SE.pw⟩⟩
          obtain rfl | rfl | rfl : i = 0 ∨ i = 1 ∨ i = 2 := by omega
          · cases hks
            exact pairs be rfl (fun x m => (gb x m).2) rfl
          · cases hks
            obtain ⟨fs, rfl, fm⟩ := exists_map (pk := apk) (es := ae) (gs := gs) fun g m => (gm g).mp m
            have nd2 : fs.Nodup := (List.pairwise_map.mp nd).imp fun {x y} h e => h (by rw [e])
            obtain ⟨key, ds, SE⟩ := SortE.arcs (en4.unkeys (img := aimg) fun _ => rfl) nd2 fun e m => (ga e (fm e m)).2.2
            exact ⟨key, ds.map apk, SE.rel, SE.al, SE.so, SE.dp, SE.ent.keys apk fun _ => rfl, by rw [List.length_map, SE.len]; rw [List.length_map] at gl; exact gl, fun e => by rw [← gm]; exact mem_map_inj SE.mem e, .inr ⟨rfl, ds, rfl, SE.pw⟩⟩
          · cases hks
            exact pairs ee rfl (fun x m => (ge x m).2) rfl
        obtain ⟨key, zs, h1, h2, h3, h4, h5, h6, h7, h8⟩ := srt
        refine ⟨_, rfl, .inl ⟨rfl, _, .inl (.inl hR4)⟩, _, rfl, W, ys, key, rfl, rfl, .inl (.inl hW4), h1, h2, h3, h4, fun d H5 s5 nd5 hd => ?_⟩
        have hR5 := s5 _ _ hR4
        have dR : d ≠ R := fun e => by rw [e, hR4] at nd5; cases nd5
        have rk : RowK H5 d ks (decide (i ≠ 1)) := ⟨_, zs, hd, h5.same s5, h6, h7, h8⟩
        have i3 : i < 3 := hi
        refine ⟨R, _, _, rfl, rfl, hR5, by rw [List.length_map, lps]; exact Nat.lt_of_lt_of_le i3 (by decide), ⟨_, _, _, rfl⟩, Same.grown (.refl H) nR ((s2.trans s4).trans s5) hR5, ps ++ [d], by rw [upd_same, List.map_append]; rfl, by rw [List.length_append, lps]; rfl, fun j x ks' hj hk => ?_⟩
        by_cases jl : j < ps.length
        · rw [List.getElem?_append_left jl] at hj
          obtain ⟨xR, k'⟩ := each j x ks' hj hk
          exact ⟨xR, (k'.same (s4.trans s5)).put xR hR5⟩
        · have ej : j = i := by
            have := (List.getElem?_eq_some_iff.mp hj).1
            rw [List.length_append] at this
            have : j < ps.length + 1 := this
            omega
          subst ej
          rw [List.getElem?_append_right (by omega), lps, Nat.sub_self] at hj
          have hj : d = x := Option.some.inj hj
          subst hj
          rw [hks] at hk
          cases hk
          exact ⟨dR, rk.put dR hR5⟩
      · rintro σ H3 ⟨⟨y1, y2, y3, rfl⟩, s3, ps, hR3, lps, each⟩
        obtain ⟨d1, d2, d3, rfl⟩ := list3 (show ps.length = 3 from lps)
        exact ⟨⟨_, _, _, rfl⟩, s3, d1, d2, d3, hR3, (each 0 d1 _ rfl rfl).2, (each 1 d2 _ rfl rfl).2, (each 2 d3 _ rfl rfl).2⟩
    rintro σ' H2 ⟨⟨y1, y2, y3, rfl⟩, s2, d1, d2, d3, hR2, K1, K2, K3⟩
    have hp2 := sq_same s2 hp
    refine ⟨_, rfl, ix_any hp2 rfl ⟨_, rfl, ix_any hp2 rfl ⟨_, rfl, ix_any hp2 rfl ⟨_, rfl, _, _, _, _, rfl, rfl, .inl (.inl hR2), rfl, _, rfl, _, _, _, _, rfl, rfl, .inl (.inl hR2), rfl, _, rfl, _, _, _, _, rfl, rfl, .inl (.inl hR2), rfl, by show 6 ≤ sizeLine; decide, fun t nt => ?_⟩⟩⟩⟩
    have k3 := same_new (o := .tup [.str r, .str z, .int n, .ref d1, .ref d2, .ref d3]) nt
    obtain ⟨x1, g1, a1, b1, c1, m1, o1⟩ := K1.same k3
    obtain ⟨x2, g2, a2, b2, c2, m2, o2⟩ := K2.same k3
    obtain ⟨x3, g3, a3, b3, c3, m3, o3⟩ := K3.same k3
    obtain ⟨_, e1, rfl, p1⟩ := o1.resolve_right fun h => (by cases h.1)
    obtain ⟨_, e2, rfl, p2⟩ := o2.resolve_left fun h => (by cases h.1)
    obtain ⟨_, e3, rfl, p3⟩ := o3.resolve_right fun h => (by cases h.1)
    rw [List.length_map, List.length_map] at c1 c2 c3
    have un : ∀ {α : Type} {pk : α → List L2.Key} (inj : ∀ a b, pk a = pk b → a = b) {xs ys : List α}, (∀ e, e ∈ xs.map pk ↔ e ∈ ys.map pk) → ∀ x, x ∈ xs ↔ x ∈ ys := fun {α pk} inj {xs ys} h x => by
      have key : ∀ {zs : List α}, pk x ∈ zs.map pk ↔ x ∈ zs := fun {zs} => ⟨fun m => (by obtain ⟨y, hy, e⟩ := List.mem_map.mp m; exact inj _ _ e ▸ hy), fun m => List.mem_map_of_mem m⟩
      exact key.symm.trans ((h (pk x)).trans key)
    exact q t d1 d2 d3 x1 x2 x3 e1 e2 e3 _ (s2.trans k3) (s2.free nt) ⟨upd_same, a1, a2, a3, b1.unkeys fun _ => rfl, b2.unkeys fun _ => rfl, b3.unkeys fun _ => rfl, p1, p2, p3, un ppk_inj m1, un apk_inj m2, un ppk_inj m3, c1, c2, c3⟩

def sp_machine_rows [Tabl] (K : PySem.W.Frag) : Sp := fun vs H Q _ => ∃ (p : Addr) (r z : Str) (n : Int) (be : List (Int × Str)) (ae : List EnS.Arc) (ee : List (Int × Str)) (b a e : Addr) (bx ax ex : List V), vs = [.ref p] ∧ (SqL K H p [.str r, .str z, .int n, .ref b, .ref a, .ref e] ∨ SqT K H p [.str r, .str z, .int n, .ref b, .ref a, .ref e]) ∧ GoodM r z n be ae ee ∧
  H b = some (.lst bx) ∧ H a = some (.lst ax) ∧ H e = some (.lst ex) ∧ bx.length ≤ 400 ∧ ax.length ≤ 400 ∧ ex.length ≤ 400 ∧ EntL pimg H bx be ∧ EntL aimg H ax ae ∧ EntL pimg H ex ee ∧
  ∀ (bd : List (Int × Str)) (ad : List EnS.Arc) (ed : List (Int × Str)) (l : Addr) (xs : List V) (H' : Hp), Same H H' → H l = none → Srt EnS.PLt bd be → Srt EnS.ALt ad ae → Srt EnS.PLt ed ee → H' l = some (.lst xs) → TextRows H' xs (rowsM r z n bd ad ed) → Q (.ref l) H'
theorem ok_machine_rows (T : Txt K mg base) : FnOk P w K mg base CX0 (3 + 1) T.f_machine_rows T.fd_machine_rows ["parts"] (sp_machine_rows K) := by
  refine T.F_machine_rows.ok sc_machine_rows (fun vs H Q E h => ?_) (fun cdv A outer s H vs Q E hr h => ?_)
  · obtain ⟨p, r, z, n, be, ae, ee, b, a, e, bx, ax, ex, rfl, _⟩ := h
    rfl
  · obtain ⟨p, r, z, n, be, ae, ee, b, a, e, bx, ax, ex, rfl, hp, g, hb, ha, he, lb, la, le, eb, ea, eE, q⟩ := h
    refine ⟨_, (pss_cons (ps_set (i := 1) sc_machine_rows.nd rfl (.inl rfl) (pe_call (ok_tidy T) (hr.mono (by first | decide | exact Nat.le_refl _)) (by rfl) T.g_tidy T.F_tidy.kp T.b_tidy .nil pass0 (pa_cons (pv 0) pa_nil)))
      (pss_cons (ps_set (i := 2) sc_machine_rows.nd rfl (.inl rfl) (pe_lst (pa_cons (pe_lst (pa_cons pe_str (pa_cons (pe_ix ix_seq (pv 0) pe_int (fun _ _ => rfl)) (pa_cons (pe_ix ix_seq (pv 0) pe_int (fun _ _ => rfl)) (pa_cons (pe_callTy call_str_int (by rfl) T.z_str (by decide +kernel) (pa_cons (pe_ix ix_seq (pv 0) pe_int (fun _ _ => rfl)) pa_nil)) pa_nil))))) pa_nil)))
      (C8.pss_cut (ps_for PassesOwn.never rfl (pi_list (pe_ix ix_tup (pv 1) pe_int (fun _ _ => rfl))) (pg_name (i := 3) sc_machine_rows.nd rfl (.inl rfl)) (pss_one (ps_expr (pe_bm PySem.F.plainAttrs_list PySem.F.slot_list_append PySem.F.type_list_append mt_append (pv 2) (pa_cons (pe_lst (pa_cons pe_str (pa_cons (pe_callTy call_str_int (by rfl) T.z_str (by decide +kernel) (pa_cons (pe_ix ix_tup (pv 3) pe_int (fun _ _ => rfl)) pa_nil)) (pa_cons (pe_call (ok_shown T) (hr.mono (by first | decide | exact Nat.le_refl _)) (by rfl) T.g_shown T.F_shown.kp T.b_shown .nil pass0 (pa_cons (pe_ix ix_tup (pv 3) pe_int (fun _ _ => rfl)) pa_nil)) pa_nil)))) pa_nil)))))
      (C8.pss_cut (ps_for PassesOwn.never rfl (pi_list (pe_ix ix_tup (pv 1) pe_int (fun _ _ => rfl))) (pg_name (i := 3) sc_machine_rows.nd rfl (.inl rfl)) (pss_one (ps_expr (pe_bm PySem.F.plainAttrs_list PySem.F.slot_list_append PySem.F.type_list_append mt_append (pv 2) (pa_cons (pe_lst (pa_cons pe_str (pa_cons (pe_callTy call_str_int (by rfl) T.z_str (by decide +kernel) (pa_cons (pe_ix ix_tup (pv 3) pe_int (fun _ _ => rfl)) pa_nil)) (pa_cons (pe_ix ix_tup (pv 3) pe_int (fun _ _ => rfl)) (pa_cons (pe_call (ok_shown T) (hr.mono (by first | decide | exact Nat.le_refl _)) (by rfl) T.g_shown T.F_shown.kp T.b_shown .nil pass0 (pa_cons (pe_ix ix_tup (pv 3) pe_int (fun _ _ => rfl)) pa_nil)) (pa_cons (pe_callTy call_str_int (by rfl) T.z_str (by decide +kernel) (pa_cons (pe_ix ix_tup (pv 3) pe_int (fun _ _ => rfl)) pa_nil)) pa_nil)))))) pa_nil)))))
      (C8.pss_cut (ps_for PassesOwn.never rfl (pi_list (pe_ix ix_tup (pv 1) pe_int (fun _ _ => rfl))) (pg_name (i := 3) sc_machine_rows.nd rfl (.inl rfl)) (pss_one (ps_expr (pe_bm PySem.F.plainAttrs_list PySem.F.slot_list_append PySem.F.type_list_append mt_append (pv 2) (pa_cons (pe_lst (pa_cons pe_str (pa_cons (pe_callTy call_str_int (by rfl) T.z_str (by decide +kernel) (pa_cons (pe_ix ix_tup (pv 3) pe_int (fun _ _ => rfl)) pa_nil)) (pa_cons (pe_call (ok_shown T) (hr.mono (by first | decide | exact Nat.le_refl _)) (by rfl) T.g_shown T.F_shown.kp T.b_shown .nil pass0 (pa_cons (pe_ix ix_tup (pv 3) pe_int (fun _ _ => rfl)) pa_nil)) pa_nil)))) pa_nil)))))
      (pss_one (ps_ret (pv 2)))))))), ?_⟩
    have n64 := g.n64
    have lbe := eb.len
    have lae := ea.len
    have lee := eE.len
    refine ⟨_, rfl, p, r, z, n, be, ae, ee, b, a, e, bx, ax, ex, rfl, hp, g.ar, g.az, hb, ha, he, by omega, by omega, by omega, eb, ea, eE, fun x m => ⟨(g.gb x m).2.2.1, by have := (g.gb x m).2.2.2; omega⟩, fun x m => ⟨(g.ga x m).2.2.2.1, (g.ga x m).2.2.2.2.1, by have := (g.ga x m).2.2.2.2.2.1; omega⟩, fun x m => ⟨(g.ge x m).2.2.1, by have := (g.ge x m).2.2.2; omega⟩, fun t b1 a1 e1 bx1 ax1 ex1 bd ad ed H1 s1 nt TD => ?_⟩
    have hp1 := sq_same s1 hp
    have sb : Srt EnS.PLt bd be := ⟨TD.pb, TD.mb, TD.lb, by have := TD.lb; omega⟩
    have sa : Srt EnS.ALt ad ae := ⟨TD.pa, TD.ma, TD.la, by have := TD.la; omega⟩
    have se : Srt EnS.PLt ed ee := ⟨TD.pe, TD.me, TD.le, by have := TD.le; omega⟩
    refine ⟨_, rfl, ix_any hp1 rfl ⟨_, rfl, ix_any hp1 rfl ⟨_, rfl, ix_any hp1 rfl ⟨n, rfl, log_small g.n0 g.n64, by show 4 ≤ sizeLine; decide, fun D nD => ?_⟩⟩⟩⟩
    have k1 := same_new (o := .lst [.str (Str.ofString "machine"), .str r, .str z, .str (Str.ofString (toString n))]) nD
    have hD : (upd H1 D (.lst [.str (Str.ofString "machine"), .str r, .str z, .str (Str.ofString (toString n))])) D = some (.lst ((mrow r z n).map V.str)) := upd_same
    generalize upd H1 D (.lst [.str (Str.ofString "machine"), .str r, .str z, .str (Str.ofString (toString n))]) = H2 at k1 hD ⊢
    refine ⟨by show 1 ≤ sizeLine; decide, fun W nW => ?_⟩
    have k2 := same_new (o := .lst [.ref D]) nW
    have hW : (upd H2 W (.lst [.ref D])) W = some (.lst [.ref D]) := upd_same
    have tr : TextRows (upd H2 W (.lst [.ref D])) [.ref D] [mrow r z n] := .one (k2 _ _ hD)
    generalize upd H2 W (.lst [.ref D]) = H3 at k2 hW tr ⊢
    have nW1 : H1 W = none := k1.free nW
    have s3 := k1.trans k2
    have out : ∃ xs, H3 W = some (.lst xs) ∧ TextRows H3 xs [mrow r z n] := ⟨_, hW, tr⟩
    refine ⟨fun σ' H' => (∃ y3 : Option V, σ' = [some (.ref p), some (.ref t), some (.ref W), y3]) ∧ Same H1 H' ∧ ∃ xs, H' W = some (.lst xs) ∧ TextRows H' xs ([mrow r z n] ++ bd.map (prow (Str.ofString "begin"))), ?_, ?_⟩
    · have hT := s3 _ _ TD.tup
      have hl := s3 _ _ TD.hb
      refine ⟨_, rfl, _, _, _, _, rfl, rfl, .inl (.inl hT), rfl, b1, rfl, ⟨_, .inl (.inl hl)⟩, for_list (K := K) (a := b1) (xs := bx1) (fun j σ H' => (∃ y3 : Option V, σ = [some (.ref p), some (.ref t), some (.ref W), y3]) ∧ Same H1 H' ∧ ∃ xs, H' W = some (.lst xs) ∧ TextRows H' xs ([mrow r z n] ++ (bd.take j).map (prow (Str.ofString "begin")))) ⟨⟨_, rfl⟩, s3, by simpa using out⟩ (fun j σ H' _ h => .inl (.inl (h.2.1 _ _ TD.hb))) ?_ ?_⟩
      · rintro j v σ H' hv ⟨⟨y3, rfl⟩, s', us, hW', tr'⟩
        obtain ⟨x, u, hx, rfl, hu⟩ := TD.nb.get hv
        have hu' := s' _ _ hu
        have gx := g.gb x ((sb.mem x).mp (List.mem_of_getElem? hx))
        have jx := (List.getElem?_eq_some_iff.mp hx).1
        have l4 := sb.l4
        have tk : bd.take (j + 1) = bd.take j ++ [x] := by rw [List.take_add_one, hx]; rfl
        have b4 := sb.l4
        have a4 := sa.l4
        obtain ⟨g0, g1, g2, g3⟩ := gx
        refine ⟨_, rfl, .inl ⟨rfl, _, .inl (.inl hW')⟩, ?_⟩
        refine ⟨_, rfl, _, _, _, _, rfl, rfl, .inl (.inl hu'), rfl, x.1, rfl, log_small g0 (by omega), _, rfl, _, _, _, _, rfl, rfl, .inl (.inl hu'), rfl, x.2, rfl, by omega, fun ne => ?_, fun eq => ?_⟩
        · have hw : x.2 = shW x.2 := (if_neg ne).symm
          refine ⟨by show 3 ≤ sizeLine; decide, fun F nF => ?_⟩
          have k4 := same_new (o := .lst [.str (Str.ofString "begin"), .str (Str.ofString (toString x.1)), .str (x.2)]) nF
          have hF : (upd H' F (.lst [.str (Str.ofString "begin"), .str (Str.ofString (toString x.1)), .str (x.2)])) F = some (.lst ((prow (Str.ofString "begin") x).map V.str)) := by
            rw [upd_same]
            show some (HO.lst [.str (Str.ofString "begin"), .str (Str.ofString (toString x.1)), .str (x.2)]) = some (HO.lst [.str (Str.ofString "begin"), .str (shI x.1), .str (shW x.2)])
            rw [← hw]
            rfl
          have FW : F ≠ W := fun z => by rw [z, hW'] at nF; cases nF
          have hW4 := k4 _ _ hW'
          have tr4 := tr'.same k4
          generalize upd H' F (.lst [.str (Str.ofString "begin"), .str (Str.ofString (toString x.1)), .str (x.2)]) = H4 at k4 hF hW4 tr4 ⊢
          refine ⟨W, _, _, rfl, rfl, hW4, ?_, ⟨_, rfl⟩, Same.grown (.refl H1) nW1 (s'.trans k4) hW4, _, upd_same, ?_⟩
          · rw [tr4.len]
            simp only [List.length_map, List.length_append, List.length_take, List.length_cons, List.length_nil]
            exact Nat.lt_of_lt_of_le (by omega : _ < 2000) (by decide)
          · rw [tk, List.map_append, ← List.append_assoc]
            exact tr4.push (by simp only [List.length_append, List.length_cons]; omega) hW4 FW hF
        · have hw : Str.ofString "-" = shW x.2 := (if_pos eq).symm
          refine ⟨by show 3 ≤ sizeLine; decide, fun F nF => ?_⟩
          have k4 := same_new (o := .lst [.str (Str.ofString "begin"), .str (Str.ofString (toString x.1)), .str (Str.ofString "-")]) nF
          have hF : (upd H' F (.lst [.str (Str.ofString "begin"), .str (Str.ofString (toString x.1)), .str (Str.ofString "-")])) F = some (.lst ((prow (Str.ofString "begin") x).map V.str)) := by
            rw [upd_same]
            show some (HO.lst [.str (Str.ofString "begin"), .str (Str.ofString (toString x.1)), .str (Str.ofString "-")]) = some (HO.lst [.str (Str.ofString "begin"), .str (shI x.1), .str (shW x.2)])
            rw [← hw]
            rfl
          have FW : F ≠ W := fun z => by rw [z, hW'] at nF; cases nF
          have hW4 := k4 _ _ hW'
          have tr4 := tr'.same k4
          generalize upd H' F (.lst [.str (Str.ofString "begin"), .str (Str.ofString (toString x.1)), .str (Str.ofString "-")]) = H4 at k4 hF hW4 tr4 ⊢
          refine ⟨W, _, _, rfl, rfl, hW4, ?_, ⟨_, rfl⟩, Same.grown (.refl H1) nW1 (s'.trans k4) hW4, _, upd_same, ?_⟩
          · rw [tr4.len]
            simp only [List.length_map, List.length_append, List.length_take, List.length_cons, List.length_nil]
            exact Nat.lt_of_lt_of_le (by omega : _ < 2000) (by decide)
          · rw [tk, List.map_append, ← List.append_assoc]
            exact tr4.push (by simp only [List.length_append, List.length_cons]; omega) hW4 FW hF
      · rintro σ H' ⟨⟨y3, rfl⟩, s', us, hW', tr'⟩
        have lx := TD.nb.len
        exact ⟨⟨_, rfl⟩, s', us, hW', by rw [List.take_of_length_le (by omega)] at tr'; exact tr'⟩
    clear out
    rintro σ' H4' ⟨⟨y3, rfl⟩, s4, out⟩
    refine ⟨fun σ' H' => (∃ y3 : Option V, σ' = [some (.ref p), some (.ref t), some (.ref W), y3]) ∧ Same H1 H' ∧ ∃ xs, H' W = some (.lst xs) ∧ TextRows H' xs (([mrow r z n] ++ bd.map (prow (Str.ofString "begin"))) ++ ad.map arow), ?_, ?_⟩
    · have hT := s4 _ _ TD.tup
      have hl := s4 _ _ TD.ha
      refine ⟨_, rfl, _, _, _, _, rfl, rfl, .inl (.inl hT), rfl, a1, rfl, ⟨_, .inl (.inl hl)⟩, for_list (K := K) (a := a1) (xs := ax1) (fun j σ H' => (∃ y3 : Option V, σ = [some (.ref p), some (.ref t), some (.ref W), y3]) ∧ Same H1 H' ∧ ∃ xs, H' W = some (.lst xs) ∧ TextRows H' xs (([mrow r z n] ++ bd.map (prow (Str.ofString "begin"))) ++ (ad.take j).map arow)) ⟨⟨_, rfl⟩, s4, by simpa using out⟩ (fun j σ H' _ h => .inl (.inl (h.2.1 _ _ TD.ha))) ?_ ?_⟩
      · rintro j v σ H' hv ⟨⟨y3, rfl⟩, s', us, hW', tr'⟩
        obtain ⟨x, u, hx, rfl, hu⟩ := TD.na.get hv
        have hu' := s' _ _ hu
        have gx := g.ga x ((sa.mem x).mp (List.mem_of_getElem? hx))
        have jx := (List.getElem?_eq_some_iff.mp hx).1
        have l4 := sa.l4
        have tk : ad.take (j + 1) = ad.take j ++ [x] := by rw [List.take_add_one, hx]; rfl
        have b4 := sb.l4
        have a4 := sa.l4
        obtain ⟨g0, g1, g2, g3, g4, g5, g6, g7⟩ := gx
        refine ⟨_, rfl, .inl ⟨rfl, _, .inl (.inl hW')⟩, ?_⟩
        refine ⟨_, rfl, _, _, _, _, rfl, rfl, .inl (.inl hu'), rfl, x.1, rfl, log_small g0 (by omega), _, rfl, _, _, _, _, rfl, rfl, .inl (.inl hu'), rfl, _, rfl, _, _, _, _, rfl, rfl, .inl (.inl hu'), rfl, x.2.2.1, rfl, by omega, fun ne => ?_, fun eq => ?_⟩
        · have hw : x.2.2.1 = shW x.2.2.1 := (if_neg ne).symm
          refine ⟨_, rfl, _, _, _, _, rfl, rfl, .inl (.inl hu'), rfl, x.2.2.2, rfl, log_small g6 (by omega), by show 5 ≤ sizeLine; decide, fun F nF => ?_⟩
          have k4 := same_new (o := .lst [.str (Str.ofString "arc"), .str (Str.ofString (toString x.1)), .str x.2.1, .str (x.2.2.1), .str (Str.ofString (toString x.2.2.2))]) nF
          have hF : (upd H' F (.lst [.str (Str.ofString "arc"), .str (Str.ofString (toString x.1)), .str x.2.1, .str (x.2.2.1), .str (Str.ofString (toString x.2.2.2))])) F = some (.lst ((arow x).map V.str)) := by
            rw [upd_same]
            show some (HO.lst [.str (Str.ofString "arc"), .str (Str.ofString (toString x.1)), .str x.2.1, .str (x.2.2.1), .str (Str.ofString (toString x.2.2.2))]) = some (HO.lst [.str (Str.ofString "arc"), .str (shI x.1), .str x.2.1, .str (shW x.2.2.1), .str (shI x.2.2.2)])
            rw [← hw]
            rfl
          have FW : F ≠ W := fun z => by rw [z, hW'] at nF; cases nF
          have hW4 := k4 _ _ hW'
          have tr4 := tr'.same k4
          generalize upd H' F (.lst [.str (Str.ofString "arc"), .str (Str.ofString (toString x.1)), .str x.2.1, .str (x.2.2.1), .str (Str.ofString (toString x.2.2.2))]) = H4 at k4 hF hW4 tr4 ⊢
          refine ⟨W, _, _, rfl, rfl, hW4, ?_, ⟨_, rfl⟩, Same.grown (.refl H1) nW1 (s'.trans k4) hW4, _, upd_same, ?_⟩
          · rw [tr4.len]
            simp only [List.length_map, List.length_append, List.length_take, List.length_cons, List.length_nil]
            exact Nat.lt_of_lt_of_le (by omega : _ < 2000) (by decide)
          · rw [tk, List.map_append, ← List.append_assoc]
            exact tr4.push (by simp only [List.length_append, List.length_cons]; omega) hW4 FW hF
        · have hw : Str.ofString "-" = shW x.2.2.1 := (if_pos eq).symm
          refine ⟨_, rfl, _, _, _, _, rfl, rfl, .inl (.inl hu'), rfl, x.2.2.2, rfl, log_small g6 (by omega), by show 5 ≤ sizeLine; decide, fun F nF => ?_⟩
          have k4 := same_new (o := .lst [.str (Str.ofString "arc"), .str (Str.ofString (toString x.1)), .str x.2.1, .str (Str.ofString "-"), .str (Str.ofString (toString x.2.2.2))]) nF
          have hF : (upd H' F (.lst [.str (Str.ofString "arc"), .str (Str.ofString (toString x.1)), .str x.2.1, .str (Str.ofString "-"), .str (Str.ofString (toString x.2.2.2))])) F = some (.lst ((arow x).map V.str)) := by
            rw [upd_same]
            show some (HO.lst [.str (Str.ofString "arc"), .str (Str.ofString (toString x.1)), .str x.2.1, .str (Str.ofString "-"), .str (Str.ofString (toString x.2.2.2))]) = some (HO.lst [.str (Str.ofString "arc"), .str (shI x.1), .str x.2.1, .str (shW x.2.2.1), .str (shI x.2.2.2)])
            rw [← hw]
            rfl
          have FW : F ≠ W := fun z => by rw [z, hW'] at nF; cases nF
          have hW4 := k4 _ _ hW'
          have tr4 := tr'.same k4
          generalize upd H' F (.lst [.str (Str.ofString "arc"), .str (Str.ofString (toString x.1)), .str x.2.1, .str (Str.ofString "-"), .str (Str.ofString (toString x.2.2.2))]) = H4 at k4 hF hW4 tr4 ⊢
          refine ⟨W, _, _, rfl, rfl, hW4, ?_, ⟨_, rfl⟩, Same.grown (.refl H1) nW1 (s'.trans k4) hW4, _, upd_same, ?_⟩
          · rw [tr4.len]
            simp only [List.length_map, List.length_append, List.length_take, List.length_cons, List.length_nil]
            exact Nat.lt_of_lt_of_le (by omega : _ < 2000) (by decide)
          · rw [tk, List.map_append, ← List.append_assoc]
            exact tr4.push (by simp only [List.length_append, List.length_cons]; omega) hW4 FW hF
      · rintro σ H' ⟨⟨y3, rfl⟩, s', us, hW', tr'⟩
        have lx := TD.na.len
        exact ⟨⟨_, rfl⟩, s', us, hW', by rw [List.take_of_length_le (by omega)] at tr'; exact tr'⟩
    clear out
    rintro σ' H5' ⟨⟨y3, rfl⟩, s5, out⟩
    refine ⟨fun σ' H' => (∃ y3 : Option V, σ' = [some (.ref p), some (.ref t), some (.ref W), y3]) ∧ Same H1 H' ∧ ∃ xs, H' W = some (.lst xs) ∧ TextRows H' xs (([mrow r z n] ++ bd.map (prow (Str.ofString "begin")) ++ ad.map arow) ++ ed.map (prow (Str.ofString "end"))), ?_, ?_⟩
    · have hT := s5 _ _ TD.tup
      have hl := s5 _ _ TD.he
      refine ⟨_, rfl, _, _, _, _, rfl, rfl, .inl (.inl hT), rfl, e1, rfl, ⟨_, .inl (.inl hl)⟩, for_list (K := K) (a := e1) (xs := ex1) (fun j σ H' => (∃ y3 : Option V, σ = [some (.ref p), some (.ref t), some (.ref W), y3]) ∧ Same H1 H' ∧ ∃ xs, H' W = some (.lst xs) ∧ TextRows H' xs (([mrow r z n] ++ bd.map (prow (Str.ofString "begin")) ++ ad.map arow) ++ (ed.take j).map (prow (Str.ofString "end")))) ⟨⟨_, rfl⟩, s5, by simpa using out⟩ (fun j σ H' _ h => .inl (.inl (h.2.1 _ _ TD.he))) ?_ ?_⟩
      · rintro j v σ H' hv ⟨⟨y3, rfl⟩, s', us, hW', tr'⟩
        obtain ⟨x, u, hx, rfl, hu⟩ := TD.ne.get hv
        have hu' := s' _ _ hu
        have gx := g.ge x ((se.mem x).mp (List.mem_of_getElem? hx))
        have jx := (List.getElem?_eq_some_iff.mp hx).1
        have l4 := se.l4
        have tk : ed.take (j + 1) = ed.take j ++ [x] := by rw [List.take_add_one, hx]; rfl
        have b4 := sb.l4
        have a4 := sa.l4
        obtain ⟨g0, g1, g2, g3⟩ := gx
        refine ⟨_, rfl, .inl ⟨rfl, _, .inl (.inl hW')⟩, ?_⟩
        refine ⟨_, rfl, _, _, _, _, rfl, rfl, .inl (.inl hu'), rfl, x.1, rfl, log_small g0 (by omega), _, rfl, _, _, _, _, rfl, rfl, .inl (.inl hu'), rfl, x.2, rfl, by omega, fun ne => ?_, fun eq => ?_⟩
        · have hw : x.2 = shW x.2 := (if_neg ne).symm
          refine ⟨by show 3 ≤ sizeLine; decide, fun F nF => ?_⟩
          have k4 := same_new (o := .lst [.str (Str.ofString "end"), .str (Str.ofString (toString x.1)), .str (x.2)]) nF
          have hF : (upd H' F (.lst [.str (Str.ofString "end"), .str (Str.ofString (toString x.1)), .str (x.2)])) F = some (.lst ((prow (Str.ofString "end") x).map V.str)) := by
            rw [upd_same]
            show some (HO.lst [.str (Str.ofString "end"), .str (Str.ofString (toString x.1)), .str (x.2)]) = some (HO.lst [.str (Str.ofString "end"), .str (shI x.1), .str (shW x.2)])
            rw [← hw]
            rfl
          have FW : F ≠ W := fun z => by rw [z, hW'] at nF; cases nF
          have hW4 := k4 _ _ hW'
          have tr4 := tr'.same k4
          generalize upd H' F (.lst [.str (Str.ofString "end"), .str (Str.ofString (toString x.1)), .str (x.2)]) = H4 at k4 hF hW4 tr4 ⊢
          refine ⟨W, _, _, rfl, rfl, hW4, ?_, ⟨_, rfl⟩, Same.grown (.refl H1) nW1 (s'.trans k4) hW4, _, upd_same, ?_⟩
          · rw [tr4.len]
            simp only [List.length_map, List.length_append, List.length_take, List.length_cons, List.length_nil]
            exact Nat.lt_of_lt_of_le (by omega : _ < 2000) (by decide)
          · rw [tk, List.map_append, ← List.append_assoc]
            exact tr4.push (by simp only [List.length_append, List.length_cons]; omega) hW4 FW hF
        · have hw : Str.ofString "-" = shW x.2 := (if_pos eq).symm
          refine ⟨by show 3 ≤ sizeLine; decide, fun F nF => ?_⟩
          have k4 := same_new (o := .lst [.str (Str.ofString "end"), .str (Str.ofString (toString x.1)), .str (Str.ofString "-")]) nF
          have hF : (upd H' F (.lst [.str (Str.ofString "end"), .str (Str.ofString (toString x.1)), .str (Str.ofString "-")])) F = some (.lst ((prow (Str.ofString "end") x).map V.str)) := by
            rw [upd_same]
            show some (HO.lst [.str (Str.ofString "end"), .str (Str.ofString (toString x.1)), .str (Str.ofString "-")]) = some (HO.lst [.str (Str.ofString "end"), .str (shI x.1), .str (shW x.2)])
            rw [← hw]
            rfl
          have FW : F ≠ W := fun z => by rw [z, hW'] at nF; cases nF
          have hW4 := k4 _ _ hW'
          have tr4 := tr'.same k4
          generalize upd H' F (.lst [.str (Str.ofString "end"), .str (Str.ofString (toString x.1)), .str (Str.ofString "-")]) = H4 at k4 hF hW4 tr4 ⊢
          refine ⟨W, _, _, rfl, rfl, hW4, ?_, ⟨_, rfl⟩, Same.grown (.refl H1) nW1 (s'.trans k4) hW4, _, upd_same, ?_⟩
          · rw [tr4.len]
            simp only [List.length_map, List.length_append, List.length_take, List.length_cons, List.length_nil]
            exact Nat.lt_of_lt_of_le (by omega : _ < 2000) (by decide)
          · rw [tk, List.map_append, ← List.append_assoc]
            exact tr4.push (by simp only [List.length_append, List.length_cons]; omega) hW4 FW hF
      · rintro σ H' ⟨⟨y3, rfl⟩, s', us, hW', tr'⟩
        have lx := TD.ne.len
        exact ⟨⟨_, rfl⟩, s', us, hW', by rw [List.take_of_length_le (by omega)] at tr'; exact tr'⟩
    clear out
    rintro σ' H6' ⟨⟨y3, rfl⟩, s6, out⟩
    obtain ⟨us, hW6, tr6⟩ := out
    exact ⟨_, rfl, q bd ad ed W us _ (s1.trans s6) (s1.free nW1) sb sa se hW6 tr6⟩

def sp_Machine_arcs (C : Addr) (_ : PySem.W.Frag) : Sp := fun vs H Q _ => ∃ (a dx : Addr) (fs : List (Str × V)) (l : Addr) (xs : List V), vs = [.ref a] ∧ H a = some (.ins C dx fs) ∧ fs.lookup ("_arcs" : Str) = some (.ref l) ∧ H l = some (.lst xs) ∧ ∀ p, H p = none → Q (.ref p) (upd H p (.lst xs))
theorem ok_Machine_arcs (T : Txt K mg base) : FnOk P w K mg base CX0 (0 + 1) T.f_Machine_arcs T.fd_Machine_arcs ["self"] (sp_Machine_arcs T.C_Machine K) := by
  refine T.F_Machine_arcs.ok sc_Machine_arcs (fun vs H Q E h => ?_) (fun cdv A outer s H vs Q E hr h => ?_)
  · obtain ⟨a, dx, fs, l, xs, rfl, _⟩ := h
    rfl
  · obtain ⟨a, dx, fs, l, xs, rfl, ha, lk, hl, q⟩ := h
    refine ⟨_, (pss_one (ps_ret (pe_callTy call_list_of (by rfl) T.z_list (by decide +kernel) (pa_cons (pe_fld (pv 0) rfl) pa_nil)))), ?_⟩
    exact ⟨_, rfl, a, _, dx, fs, _, rfl, ha, T.cl_Machine, T.no_Machine__arcs, lk, l, xs, rfl, .inl (.inl (.inl hl)), q⟩

def sp_Machine_begins (C : Addr) (_ : PySem.W.Frag) : Sp := fun vs H Q _ => ∃ (a dx : Addr) (fs : List (Str × V)) (l : Addr) (xs : List V), vs = [.ref a] ∧ H a = some (.ins C dx fs) ∧ fs.lookup ("_begins" : Str) = some (.ref l) ∧ H l = some (.lst xs) ∧ ∀ p, H p = none → Q (.ref p) (upd H p (.lst xs))
theorem ok_Machine_begins (T : Txt K mg base) : FnOk P w K mg base CX0 (0 + 1) T.f_Machine_begins T.fd_Machine_begins ["self"] (sp_Machine_begins T.C_Machine K) := by
  refine T.F_Machine_begins.ok sc_Machine_begins (fun vs H Q E h => ?_) (fun cdv A outer s H vs Q E hr h => ?_)
  · obtain ⟨a, dx, fs, l, xs, rfl, _⟩ := h
    rfl
  · obtain ⟨a, dx, fs, l, xs, rfl, ha, lk, hl, q⟩ := h
    refine ⟨_, (pss_one (ps_ret (pe_callTy call_list_of (by rfl) T.z_list (by decide +kernel) (pa_cons (pe_fld (pv 0) rfl) pa_nil)))), ?_⟩
    exact ⟨_, rfl, a, _, dx, fs, _, rfl, ha, T.cl_Machine, T.no_Machine__begins, lk, l, xs, rfl, .inl (.inl (.inl hl)), q⟩

def sp_Machine_ends (C : Addr) (_ : PySem.W.Frag) : Sp := fun vs H Q _ => ∃ (a dx : Addr) (fs : List (Str × V)) (l : Addr) (xs : List V), vs = [.ref a] ∧ H a = some (.ins C dx fs) ∧ fs.lookup ("_ends" : Str) = some (.ref l) ∧ H l = some (.lst xs) ∧ ∀ p, H p = none → Q (.ref p) (upd H p (.lst xs))
theorem ok_Machine_ends (T : Txt K mg base) : FnOk P w K mg base CX0 (0 + 1) T.f_Machine_ends T.fd_Machine_ends ["self"] (sp_Machine_ends T.C_Machine K) := by
  refine T.F_Machine_ends.ok sc_Machine_ends (fun vs H Q E h => ?_) (fun cdv A outer s H vs Q E hr h => ?_)
  · obtain ⟨a, dx, fs, l, xs, rfl, _⟩ := h
    rfl
  · obtain ⟨a, dx, fs, l, xs, rfl, ha, lk, hl, q⟩ := h
    refine ⟨_, (pss_one (ps_ret (pe_callTy call_list_of (by rfl) T.z_list (by decide +kernel) (pa_cons (pe_fld (pv 0) rfl) pa_nil)))), ?_⟩
    exact ⟨_, rfl, a, _, dx, fs, _, rfl, ha, T.cl_Machine, T.no_Machine__ends, lk, l, xs, rfl, .inl (.inl (.inl hl)), q⟩

def sp_Machine_read (C : Addr) (_ : PySem.W.Frag) : Sp := fun vs H Q _ => ∃ (a dx : Addr) (fs : List (Str × V)) (v : V), vs = [.ref a] ∧ H a = some (.ins C dx fs) ∧ fs.lookup ("_read" : Str) = some v ∧ Q v H
theorem ok_Machine_read (T : Txt K mg base) : FnOk P w K mg base CX0 (0 + 1) T.f_Machine_read T.fd_Machine_read ["self"] (sp_Machine_read T.C_Machine K) := by
  refine T.F_Machine_read.ok sc_Machine_read (fun vs H Q E h => ?_) (fun cdv A outer s H vs Q E hr h => ?_)
  · obtain ⟨a, dx, fs, v, rfl, _⟩ := h
    rfl
  · obtain ⟨a, dx, fs, v, rfl, ha, l, q⟩ := h
    refine ⟨_, (pss_one (ps_ret (pe_fld (pv 0) rfl))), ?_⟩
    exact ⟨_, rfl, a, _, dx, fs, v, rfl, ha, T.cl_Machine, T.no_Machine__read, l, q⟩

def sp_Machine_size (C : Addr) (_ : PySem.W.Frag) : Sp := fun vs H Q _ => ∃ (a dx : Addr) (fs : List (Str × V)) (v : V), vs = [.ref a] ∧ H a = some (.ins C dx fs) ∧ fs.lookup ("_size" : Str) = some v ∧ Q v H
theorem ok_Machine_size (T : Txt K mg base) : FnOk P w K mg base CX0 (0 + 1) T.f_Machine_size T.fd_Machine_size ["self"] (sp_Machine_size T.C_Machine K) := by
  refine T.F_Machine_size.ok sc_Machine_size (fun vs H Q E h => ?_) (fun cdv A outer s H vs Q E hr h => ?_)
  · obtain ⟨a, dx, fs, v, rfl, _⟩ := h
    rfl
  · obtain ⟨a, dx, fs, v, rfl, ha, l, q⟩ := h
    refine ⟨_, (pss_one (ps_ret (pe_fld (pv 0) rfl))), ?_⟩
    exact ⟨_, rfl, a, _, dx, fs, v, rfl, ha, T.cl_Machine, T.no_Machine__size, l, q⟩

def sp_Machine_write (C : Addr) (_ : PySem.W.Frag) : Sp := fun vs H Q _ => ∃ (a dx : Addr) (fs : List (Str × V)) (v : V), vs = [.ref a] ∧ H a = some (.ins C dx fs) ∧ fs.lookup ("_write" : Str) = some v ∧ Q v H
theorem ok_Machine_write (T : Txt K mg base) : FnOk P w K mg base CX0 (0 + 1) T.f_Machine_write T.fd_Machine_write ["self"] (sp_Machine_write T.C_Machine K) := by
  refine T.F_Machine_write.ok sc_Machine_write (fun vs H Q E h => ?_) (fun cdv A outer s H vs Q E hr h => ?_)
  · obtain ⟨a, dx, fs, v, rfl, _⟩ := h
    rfl
  · obtain ⟨a, dx, fs, v, rfl, ha, l, q⟩ := h
    refine ⟨_, (pss_one (ps_ret (pe_fld (pv 0) rfl))), ?_⟩
    exact ⟨_, rfl, a, _, dx, fs, v, rfl, ha, T.cl_Machine, T.no_Machine__write, l, q⟩

def sp_parts_of [Tabl] (C : Addr) (K : PySem.W.Frag) : Sp := fun vs H Q _ => ∃ (m : Addr) (r z : Str) (n : Int) (dx b a e : Addr) (bx ax ex : List V) (bd : List (Int × Str)) (ad : List EnS.Arc) (ed : List (Int × Str)), vs = [.ref m] ∧ MA C H m r z n dx b a e bx ax ex bd ad ed ∧
  ∀ (t l1 l2 l3 : Addr) (H' : Hp), Same H H' → H t = none → (∀ x ∈ [l1, l2, l3], H x = none) → H' t = some (.tup [.str r, .str z, .int n, .ref l1, .ref l2, .ref l3]) → H' l1 = some (.lst bx) → H' l2 = some (.lst ax) → H' l3 = some (.lst ex) → Q (.ref t) H'
theorem ok_parts_of (T : Txt K mg base) : FnOk P w K mg base CX0 (2 + 1) T.f_parts_of T.fd_parts_of ["machine"] (sp_parts_of T.C_Machine K) := by
  refine T.F_parts_of.ok sc_parts_of (fun vs H Q E h => ?_) (fun cdv A outer s H vs Q E hr h => ?_)
  · obtain ⟨m, r, z, n, dx, b, a, e, bx, ax, ex, bd, ad, ed, rfl, _⟩ := h
    rfl
  · obtain ⟨m, r, z, n, dx, b, a, e, bx, ax, ex, bd, ad, ed, rfl, M, q⟩ := h
    refine ⟨_, (pss_one (ps_ret (pe_tup (pa_cons (pe_prop (pv 0) T.cl_Machine T.p_Machine_read (ok_Machine_read T) (hr.mono (by first | decide | exact Nat.le_refl _)) T.b_Machine_read .nil pass0 rfl) (pa_cons (pe_prop (pv 0) T.cl_Machine T.p_Machine_write (ok_Machine_write T) (hr.mono (by first | decide | exact Nat.le_refl _)) T.b_Machine_write .nil pass0 rfl) (pa_cons (pe_prop (pv 0) T.cl_Machine T.p_Machine_size (ok_Machine_size T) (hr.mono (by first | decide | exact Nat.le_refl _)) T.b_Machine_size .nil pass0 rfl) (pa_cons (pe_prop (pv 0) T.cl_Machine T.p_Machine_begins (ok_Machine_begins T) (hr.mono (by first | decide | exact Nat.le_refl _)) T.b_Machine_begins .nil pass0 rfl) (pa_cons (pe_prop (pv 0) T.cl_Machine T.p_Machine_arcs (ok_Machine_arcs T) (hr.mono (by first | decide | exact Nat.le_refl _)) T.b_Machine_arcs .nil pass0 rfl) (pa_cons (pe_prop (pv 0) T.cl_Machine T.p_Machine_ends (ok_Machine_ends T) (hr.mono (by first | decide | exact Nat.le_refl _)) T.b_Machine_ends .nil pass0 rfl) pa_nil))))))))), ?_⟩
    refine ⟨_, rfl, m, dx, _, rfl, M.ins, m, dx, _, _, rfl, M.ins, mfs_read, _, rfl, m, dx, _, rfl, M.ins, m, dx, _, _, rfl, M.ins, mfs_write, _, rfl, m, dx, _, rfl, M.ins, m, dx, _, _, rfl, M.ins, mfs_size, ?_⟩
    refine ⟨_, rfl, m, dx, _, rfl, M.ins, m, dx, _, b, bx, rfl, M.ins, mfs_begins, M.hb, fun l1 n1 => ?_⟩
    have s1 := same_new (o := .lst bx) n1
    have h1 : (upd H l1 (.lst bx)) l1 = some (.lst bx) := upd_same
    generalize upd H l1 (.lst bx) = H1 at s1 h1 ⊢
    have M1 := M.same s1
    refine ⟨_, rfl, m, dx, _, rfl, M1.ins, m, dx, _, a, ax, rfl, M1.ins, mfs_arcs, M1.ha, fun l2 n2 => ?_⟩
    have s2 := same_new (o := .lst ax) n2
    have h2 : (upd H1 l2 (.lst ax)) l2 = some (.lst ax) := upd_same
    generalize upd H1 l2 (.lst ax) = H2 at s2 h2 ⊢
    have M2 := M1.same s2
    refine ⟨_, rfl, m, dx, _, rfl, M2.ins, m, dx, _, e, ex, rfl, M2.ins, mfs_ends, M2.he, fun l3 n3 => ?_⟩
    have s3 := same_new (o := .lst ex) n3
    have h3 : (upd H2 l3 (.lst ex)) l3 = some (.lst ex) := upd_same
    generalize upd H2 l3 (.lst ex) = H3 at s3 h3 ⊢
    refine ⟨by show 6 ≤ sizeLine; decide, fun t nt => ?_⟩
    have s4 := same_new (o := .tup [.str r, .str z, .int n, .ref l1, .ref l2, .ref l3]) nt
    refine q t l1 l2 l3 _ (((s1.trans s2).trans s3).trans s4) (s1.free (s2.free (s3.free nt))) (fun x mx => ?_) upd_same (s4 _ _ (s3 _ _ (s2 _ _ h1))) (s4 _ _ (s3 _ _ h2)) (s4 _ _ h3)
    rcases List.mem_cons.mp mx with e | mx
    · rw [e]; exact n1
    rcases List.mem_cons.mp mx with e | mx
    · rw [e]; exact s1.free n2
    · rw [List.mem_singleton.mp mx]; exact s1.free (s2.free n3)

def sp_renamed [Tabl] (K : PySem.W.Frag) : Sp := fun vs H Q _ => ∃ (p o : Addr) (os : List Int) (r z : Str) (n : Int) (be : List (Int × Str)) (ae : List EnS.Arc) (ee : List (Int × Str)) (b a e : Addr) (bx ax ex : List V), vs = [.ref p, .ref o] ∧ (SqL K H p [.str r, .str z, .int n, .ref b, .ref a, .ref e] ∨ SqT K H p [.str r, .str z, .int n, .ref b, .ref a, .ref e]) ∧ H o = some (.lst (os.map V.int)) ∧
  H b = some (.lst bx) ∧ H a = some (.lst ax) ∧ H e = some (.lst ex) ∧ bx.length ≤ 1000 ∧ ax.length ≤ 1000 ∧ ex.length ≤ 1000 ∧ EntL pimg H bx be ∧ EntL aimg H ax ae ∧ EntL pimg H ex ee ∧
  (∀ x ∈ be, 0 ≤ x.1 ∧ x.1 < os.length) ∧ (∀ x ∈ ae, 0 ≤ x.1 ∧ x.1 < os.length ∧ 0 ≤ x.2.2.2 ∧ x.2.2.2 < os.length) ∧ (∀ x ∈ ee, 0 ≤ x.1 ∧ x.1 < os.length) ∧
  ∀ (t b' a' e' : Addr) (bx' ax' ex' : List V) (H' : Hp), Same H H' → H t = none → H' t = some (.tup [.str r, .str z, .int n, .ref b', .ref a', .ref e']) → H' b' = some (.lst bx') → H' a' = some (.lst ax') → H' e' = some (.lst ex') → EntL pimg H' bx' (be.map (mvP os)) → EntL aimg H' ax' (ae.map (mvA os)) → EntL pimg H' ex' (ee.map (mvP os)) → Q (.ref t) H'
theorem ok_renamed (T : Txt K mg base) : FnOk P w K mg base CX0 (0 + 1) T.f_renamed T.fd_renamed ["parts", "order"] (sp_renamed K) := by
  refine T.F_renamed.ok sc_renamed (fun vs H Q E h => ?_) (fun cdv A outer s H vs Q E hr h => ?_)
  · obtain ⟨p, o, os, r, z, n, be, ae, ee, b, a, e, bx, ax, ex, rfl, _⟩ := h
    rfl
  · obtain ⟨p, o, os, r, z, n, be, ae, ee, b, a, e, bx, ax, ex, rfl, hp, ho, hb, ha, he, lb, la, le, eb, ea, eE, gb, ga, ge, q⟩ := h
    refine ⟨_, (pss_cons (ps_setLc (i := 2) (own := [("x", 4)]) (g := gName 4) rfl sc_renamed.nd rfl rfl (sw_true rfl rfl rfl (by decide +kernel)) (pi_list (pe_ix ix_seq (pv 0) pe_int (fun _ _ => rfl))) (blkOk_by (N := ["parts", "order", "heads", "links", "x"]) (sc := defScope s_renamed) (by decide +kernel)) (fun _ _ _ _ _ => pg_name (i := 4) sc_renamed.nd rfl (Or.inl rfl)) (fun _ _ _ _ _ => pts_nil) (fun _ _ _ _ _ => (pe_tup (pa_cons (pe_ix (ix_listK K rfl) (pv 1) (pe_ix (ix_tupK K rfl) (pv 4) pe_int (fun _ _ => rfl)) (fun _ _ => rfl)) (pa_cons (pe_ix (ix_tupK K rfl) (pv 4) pe_int (fun _ _ => rfl)) pa_nil)))))
      (pss_cons (ps_setLc (i := 3) (own := [("x", 4)]) (g := gName 4) rfl sc_renamed.nd rfl rfl (sw_true rfl rfl rfl (by decide +kernel)) (pi_list (pe_ix ix_seq (pv 0) pe_int (fun _ _ => rfl))) (blkOk_by (N := ["parts", "order", "heads", "links", "x"]) (sc := defScope s_renamed) (by decide +kernel)) (fun _ _ _ _ _ => pg_name (i := 4) sc_renamed.nd rfl (Or.inl rfl)) (fun _ _ _ _ _ => pts_nil) (fun _ _ _ _ _ => (pe_tup (pa_cons (pe_ix (ix_listK K rfl) (pv 1) (pe_ix (ix_tupK K rfl) (pv 4) pe_int (fun _ _ => rfl)) (fun _ _ => rfl)) (pa_cons (pe_ix (ix_tupK K rfl) (pv 4) pe_int (fun _ _ => rfl)) (pa_cons (pe_ix (ix_tupK K rfl) (pv 4) pe_int (fun _ _ => rfl)) (pa_cons (pe_ix (ix_listK K rfl) (pv 1) (pe_ix (ix_tupK K rfl) (pv 4) pe_int (fun _ _ => rfl)) (fun _ _ => rfl)) pa_nil)))))))
      (pss_one (ps_ret (pe_tup (pa_cons (pe_ix ix_seq (pv 0) pe_int (fun _ _ => rfl)) (pa_cons (pe_ix ix_seq (pv 0) pe_int (fun _ _ => rfl)) (pa_cons (pe_ix ix_seq (pv 0) pe_int (fun _ _ => rfl)) (pa_cons (pv 2) (pa_cons (pv 3) (pa_cons (pe_lc (own := [("x", 4)]) (g := gName 4) rfl sc_renamed.nd (pi_list (pe_ix ix_seq (pv 0) pe_int (fun _ _ => rfl))) (blkOk_by (N := ["parts", "order", "heads", "links", "x"]) (sc := defScope s_renamed) (by decide +kernel)) (fun _ _ _ _ _ => pg_name (i := 4) sc_renamed.nd rfl (Or.inl rfl)) (fun _ _ _ _ _ => pts_nil) (fun _ _ _ _ _ => (pe_tup (pa_cons (pe_ix (ix_listK K rfl) (pv 1) (pe_ix (ix_tupK K rfl) (pv 4) pe_int (fun _ _ => rfl)) (fun _ _ => rfl)) (pa_cons (pe_ix (ix_tupK K rfl) (pv 4) pe_int (fun _ _ => rfl)) pa_nil))))) pa_nil))))))))))), ?_⟩
    refine ⟨_, rfl, ix_any hp rfl ⟨b, rfl, ⟨_, .inl (.inl hb)⟩, fun D nD => ?_⟩⟩
    have k1 := same_new (o := .lst []) nD
    have hD : (upd H D (.lst [])) D = some (.lst []) := upd_same
    have fD : H D = none := nD
    refine lc_list (K := K) (a := b) (xs := bx) (fun i H' => Same H H' ∧ ∃ ys, H' D = some (.lst ys) ∧ EntL pimg H' ys ((be.take i).map (mvP os)))
      ⟨k1, [], hD, .nil⟩ (fun i H' _ h => .inl (.inl (h.1 _ _ hb))) ?_ ?_
    · rintro i v Hg hv ⟨sg, ys, hDg, eng⟩
      obtain ⟨x, t, hx, rfl, ht⟩ := eb.get hv
      have htg := sg _ _ ht
      have hog := sg _ _ ho
      have ix := (List.getElem?_eq_some_iff.mp hx).1
      have lx := eb.len
      obtain ⟨g0, g1⟩ := gb x (List.mem_of_getElem? hx)
      refine ⟨rfl, _, rfl, _, rfl, _, _, _, _, rfl, rfl, .inl (.inl htg), rfl, _, _, _, _, rfl, rfl, .inl (.inl hog), mvI_at g0 g1, _, rfl, _, _, _, _, rfl, rfl, .inl (.inl htg), rfl, by show 2 ≤ sizeLine; decide, fun u nu => ?_⟩
      have kg := same_new (o := .tup [.int (mvI os x.1), .str x.2]) nu
      have hu : (upd Hg u (.tup [.int (mvI os x.1), .str x.2])) u = some (.tup (pimg ((mvP os) x))) := upd_same
      have hDh := kg _ _ hDg
      have enh := eng.same kg
      generalize upd Hg u (.tup [.int (mvI os x.1), .str x.2]) = Hh at kg hu hDh enh ⊢
      refine ⟨_, hDh, ?_, Same.grown (.refl H) nD (sg.trans kg) hDh, _, upd_same, ?_⟩
      · rw [enh.len]
        simp only [List.length_map, List.length_take]
        exact Nat.lt_of_le_of_lt (by omega : _ ≤ 1000) (by decide)
      · rw [List.take_add_one, hx]
        have := (enh.snoc hu).butN (But.put (o := .lst (ys ++ [.ref u])) hDh) (fun zs e => by rw [hDh] at e; cases e)
        rw [List.map_append]
        exact this
    rintro H1 ⟨t1, y1, hD, e1⟩
    have lx := eb.len
    rw [List.take_of_length_le (by omega)] at e1
    have s1 : Same H H1 := t1
    refine ⟨_, rfl, ix_any (sq_same s1 hp) rfl ⟨a, rfl, ⟨_, .inl (.inl (s1 _ _ ha))⟩, fun F nF => ?_⟩⟩
    have k2 := same_new (o := .lst []) nF
    have hF : (upd H1 F (.lst [])) F = some (.lst []) := upd_same
    have fF : H F = none := s1.free nF
    refine lc_list (K := K) (a := a) (xs := ax) (fun i H' => Same H1 H' ∧ ∃ ys, H' F = some (.lst ys) ∧ EntL aimg H' ys ((ae.take i).map (mvA os)))
      ⟨k2, [], hF, .nil⟩ (fun i H' _ h => .inl (.inl (h.1 _ _ (s1 _ _ ha)))) ?_ ?_
    · rintro i v Hg hv ⟨sg, ys, hDg, eng⟩
      obtain ⟨x, t, hx, rfl, ht⟩ := ea.get hv
      have htg := (s1.trans sg) _ _ ht
      have hog := (s1.trans sg) _ _ ho
      have ix := (List.getElem?_eq_some_iff.mp hx).1
      have lx := ea.len
      obtain ⟨g0, g1, g2, g3⟩ := ga x (List.mem_of_getElem? hx)
      refine ⟨rfl, _, rfl, _, rfl, _, _, _, _, rfl, rfl, .inl (.inl htg), rfl, _, _, _, _, rfl, rfl, .inl (.inl hog), mvI_at g0 g1, _, rfl, _, _, _, _, rfl, rfl, .inl (.inl htg), rfl, _, rfl, _, _, _, _, rfl, rfl, .inl (.inl htg), rfl, _, rfl, _, rfl, _, _, _, _, rfl, rfl, .inl (.inl htg), rfl, _, _, _, _, rfl, rfl, .inl (.inl hog), mvI_at g2 g3, by show 4 ≤ sizeLine; decide, fun u nu => ?_⟩
      have kg := same_new (o := .tup [.int (mvI os x.1), .str x.2.1, .str x.2.2.1, .int (mvI os x.2.2.2)]) nu
      have hu : (upd Hg u (.tup [.int (mvI os x.1), .str x.2.1, .str x.2.2.1, .int (mvI os x.2.2.2)])) u = some (.tup (aimg ((mvA os) x))) := upd_same
      have hDh := kg _ _ hDg
      have enh := eng.same kg
      generalize upd Hg u (.tup [.int (mvI os x.1), .str x.2.1, .str x.2.2.1, .int (mvI os x.2.2.2)]) = Hh at kg hu hDh enh ⊢
      refine ⟨_, hDh, ?_, Same.grown (.refl H1) nF (sg.trans kg) hDh, _, upd_same, ?_⟩
      · rw [enh.len]
        simp only [List.length_map, List.length_take]
        exact Nat.lt_of_le_of_lt (by omega : _ ≤ 1000) (by decide)
      · rw [List.take_add_one, hx]
        have := (enh.snoc hu).butN (But.put (o := .lst (ys ++ [.ref u])) hDh) (fun zs e => by rw [hDh] at e; cases e)
        rw [List.map_append]
        exact this
    rintro H2 ⟨t2, y2, hF, e2⟩
    have lx := ea.len
    rw [List.take_of_length_le (by omega)] at e2
    have s2 : Same H H2 := s1.trans t2
    refine ⟨_, rfl, ix_any (sq_same s2 hp) rfl ⟨_, rfl, ix_any (sq_same s2 hp) rfl ⟨_, rfl, ix_any (sq_same s2 hp) rfl ⟨_, rfl, _, rfl, ?_⟩⟩⟩⟩
    refine ⟨_, rfl, ix_any (sq_same s2 hp) rfl ⟨e, rfl, ⟨_, .inl (.inl (s2 _ _ he))⟩, fun M nM => ?_⟩⟩
    have k3 := same_new (o := .lst []) nM
    have hM : (upd H2 M (.lst [])) M = some (.lst []) := upd_same
    have fM : H M = none := s2.free nM
    refine lc_list (K := K) (a := e) (xs := ex) (fun i H' => Same H2 H' ∧ ∃ ys, H' M = some (.lst ys) ∧ EntL pimg H' ys ((ee.take i).map (mvP os)))
      ⟨k3, [], hM, .nil⟩ (fun i H' _ h => .inl (.inl (h.1 _ _ (s2 _ _ he)))) ?_ ?_
    · rintro i v Hg hv ⟨sg, ys, hDg, eng⟩
      obtain ⟨x, t, hx, rfl, ht⟩ := eE.get hv
      have htg := (s2.trans sg) _ _ ht
      have hog := (s2.trans sg) _ _ ho
      have ix := (List.getElem?_eq_some_iff.mp hx).1
      have lx := eE.len
      obtain ⟨g0, g1⟩ := ge x (List.mem_of_getElem? hx)
      refine ⟨rfl, _, rfl, _, rfl, _, _, _, _, rfl, rfl, .inl (.inl htg), rfl, _, _, _, _, rfl, rfl, .inl (.inl hog), mvI_at g0 g1, _, rfl, _, _, _, _, rfl, rfl, .inl (.inl htg), rfl, by show 2 ≤ sizeLine; decide, fun u nu => ?_⟩
      have kg := same_new (o := .tup [.int (mvI os x.1), .str x.2]) nu
      have hu : (upd Hg u (.tup [.int (mvI os x.1), .str x.2])) u = some (.tup (pimg ((mvP os) x))) := upd_same
      have hDh := kg _ _ hDg
      have enh := eng.same kg
      generalize upd Hg u (.tup [.int (mvI os x.1), .str x.2]) = Hh at kg hu hDh enh ⊢
      refine ⟨_, hDh, ?_, Same.grown (.refl H2) nM (sg.trans kg) hDh, _, upd_same, ?_⟩
      · rw [enh.len]
        simp only [List.length_map, List.length_take]
        exact Nat.lt_of_le_of_lt (by omega : _ ≤ 1000) (by decide)
      · rw [List.take_add_one, hx]
        have := (enh.snoc hu).butN (But.put (o := .lst (ys ++ [.ref u])) hDh) (fun zs e => by rw [hDh] at e; cases e)
        rw [List.map_append]
        exact this
    rintro H3 ⟨t3, y3, hM, e3⟩
    have lx := eE.len
    rw [List.take_of_length_le (by omega)] at e3
    have s3 : Same H H3 := s2.trans t3
    refine ⟨by show 6 ≤ sizeLine; decide, fun t nt => ?_⟩
    have k6 := same_new (o := .tup [.str r, .str z, .int n, .ref D, .ref F, .ref M]) nt
    exact q t D F M y1 y2 y3 _ (s3.trans k6) (s3.free nt) upd_same (k6 _ _ (t3 _ _ (t2 _ _ hD))) (k6 _ _ (t3 _ _ hF)) (k6 _ _ hM) (((e1.same t2).same t3).same k6) ((e2.same t3).same k6) (e3.same k6)

def sp_sameR (rel : Hp → V → V → Prop) : Sp := fun vs H Q _ => ∃ x y : V, vs = [x, y] ∧ rel H x y ∧ Q (.bl true) H
theorem same_bit {x : V} {Q : VK} {H : Hp} (q : Q (.bl true) H) : Q (.bl (decide (x = x))) H := by
  rw [decide_eq_true rfl]
  exact q
theorem same_step {rel : Hp → V → V → Prop} {j : Nat} (T : Txt K mg base) (G : FnOk P w K mg base CX0 j T.f_same T.fd_same ["actual", "expected"] (sp_sameR rel)) :
    FnOk P w K mg base CX0 (j + 1) T.f_same T.fd_same ["actual", "expected"] (sp_sameR (SameR rel)) := by
  refine T.F_same.ok sc_same (fun vs H Q E h => ?_) (fun cdv A outer s H vs Q E hr h => ?_)
  · obtain ⟨x, y, rfl, _⟩ := h
    rfl
  · obtain ⟨x, y, rfl, h, q⟩ := h
    refine ⟨_, (pss_cons (ps_if (pt_cmpR op_isN (pv 1) pe_non (nomark _)) (pss_one (ps_ret (pe_cmpR op_isN (pv 0) pe_non (nomark _)))) pss_nil)
      (pss_cons (ps_if (pt_val (pe_callB call_isi (by rfl) T.z_isinstance (by decide +kernel) (pa_cons (pv 1) (pa_cons (pe_bltn (v := .ty "bool") (by rfl) T.z_bool (by decide +kernel) rfl) pa_nil)))) (pss_one (ps_ret (pe_and (pe_callB call_isi (by rfl) T.z_isinstance (by decide +kernel) (pa_cons (pv 0) (pa_cons (pe_bltn (v := .ty "bool") (by rfl) T.z_bool (by decide +kernel) rfl) pa_nil))) (pe_one (pe_cmpR op_eq (pv 0) (pv 1) (nomark _)))))) pss_nil)
      (pss_cons (ps_if (pt_val (pe_callB call_isi (by rfl) T.z_isinstance (by decide +kernel) (pa_cons (pv 1) (pa_cons (pe_bltn (v := .ty "int") (by rfl) T.z_int (by decide +kernel) rfl) pa_nil)))) (pss_one (ps_ret (pe_and (pe_callB call_isi (by rfl) T.z_isinstance (by decide +kernel) (pa_cons (pv 0) (pa_cons (pe_bltn (v := .ty "int") (by rfl) T.z_int (by decide +kernel) rfl) pa_nil))) (pe_and (pe_not (pe_callB call_isi (by rfl) T.z_isinstance (by decide +kernel) (pa_cons (pv 0) (pa_cons (pe_bltn (v := .ty "bool") (by rfl) T.z_bool (by decide +kernel) rfl) pa_nil)))) (pe_one (pe_cmpR op_eq (pv 0) (pv 1) (nomark _))))))) pss_nil)
      (pss_cons (ps_if (pt_val (pe_callB call_isi (by rfl) T.z_isinstance (by decide +kernel) (pa_cons (pv 1) (pa_cons (pe_bltn (v := .ty "str") (by rfl) T.z_str (by decide +kernel) rfl) pa_nil)))) (pss_one (ps_ret (pe_and (pe_callB call_isi (by rfl) T.z_isinstance (by decide +kernel) (pa_cons (pv 0) (pa_cons (pe_bltn (v := .ty "str") (by rfl) T.z_str (by decide +kernel) rfl) pa_nil))) (pe_one (pe_cmpR op_eq (pv 0) (pv 1) (nomark _)))))) pss_nil)
      (pss_cons (ps_if (pt_val (pe_callB call_isi (by rfl) T.z_isinstance (by decide +kernel) (pa_cons (pv 1) (pa_cons (pe_bltn (v := .ty "tuple") (by rfl) T.z_tuple (by decide +kernel) rfl) pa_nil)))) (pss_one (ps_if (pt_not (pt_val (pe_callB call_isi (by rfl) T.z_isinstance (by decide +kernel) (pa_cons (pv 0) (pa_cons (pe_bltn (v := .ty "tuple") (by rfl) T.z_tuple (by decide +kernel) rfl) pa_nil))))) (pss_one (ps_ret pe_bl)) pss_nil)) (pss_one (ps_if (PW.pt (pw_or (pt_not (pt_val (pe_callB call_isi (by rfl) T.z_isinstance (by decide +kernel) (pa_cons (pv 0) (pa_cons (pe_bltn (v := .ty "list") (by rfl) T.z_list (by decide +kernel) rfl) pa_nil))))) (pw_or1 (pt_not (pt_val (pe_callB call_isi (by rfl) T.z_isinstance (by decide +kernel) (pa_cons (pv 1) (pa_cons (pe_bltn (v := .ty "list") (by rfl) T.z_list (by decide +kernel) rfl) pa_nil)))))))) (pss_one (ps_ret pe_bl)) pss_nil)))
      (pss_cons (ps_if (pt_cmpR op_ne (pe_callB call_len (by rfl) T.z_len PySem.boot_len (pa_cons (pv 0) pa_nil)) (pe_callB call_len (by rfl) T.z_len PySem.boot_len (pa_cons (pv 1) pa_nil)) (nomark _)) (pss_one (ps_ret pe_bl)) pss_nil)
      (pss_cons (ps_for PassesOwn.never rfl (pi_range1 (by rfl) T.z_range (pa_cons (pe_callB call_len (by rfl) T.z_len PySem.boot_len (pa_cons (pv 1) pa_nil)) pa_nil)) (pg_name (i := 2) sc_same.nd rfl (.inl rfl)) (pss_one (ps_if (pt_not (pt_val (pe_call G (hr.mono (by first | decide | exact Nat.le_refl _)) (by rfl) T.g_same T.F_same.kp T.b_same .nil pass0 (pa_cons (pe_ix ix_seq (pv 0) (pv 2) (fun _ _ => rfl)) (pa_cons (pe_ix ix_seq (pv 1) (pv 2) (fun _ _ => rfl)) pa_nil))))) (pss_one (ps_ret pe_bl)) pss_nil)))
      (pss_one (ps_ret pe_bl))))))))), ?_⟩
    rcases h with ⟨rfl, hy⟩ | ⟨p, r, xs, ys, rfl, rfl, ho, hl, hb, hi⟩
    · cases x with
      | non => exact ⟨_, rfl, rfl, _, rfl, iteC rfl ⟨_, rfl, rfl, q⟩⟩
      | bl b => exact ⟨_, rfl, rfl, _, rfl, iteN rfl ⟨_, rfl, _, _, _, _, true, rfl, .ty _, .base (.bl b), kit_ty (by decide +kernel), _, rfl, iteT ⟨_, rfl, _, _, _, _, true, rfl, .ty _, .base (.bl b), kit_ty (by decide +kernel), _, rfl, iteT ⟨_, rfl, _, rfl, rfl, same_bit q⟩⟩⟩⟩
      | int b =>
        refine ⟨_, rfl, rfl, _, rfl, iteN rfl ⟨_, rfl, _, _, _, _, false, rfl, .ty _, .base (.int b), kit_ty (by decide +kernel), _, rfl, iteF ?_⟩⟩
        refine ⟨_, rfl, _, _, _, _, true, rfl, .ty _, .base (.int b), kit_ty (by decide +kernel), _, rfl, iteT ?_⟩
        exact ⟨_, rfl, _, _, _, _, true, rfl, .ty _, .base (.int b), kit_ty (by decide +kernel), _, rfl, iteT ⟨_, rfl, _, _, _, _, false, rfl, .ty _, .base (.int b), kit_ty (by decide +kernel), _, rfl, _, rfl, iteT ⟨_, rfl, _, rfl, rfl, same_bit q⟩⟩⟩
      | str b =>
        refine ⟨_, rfl, rfl, _, rfl, iteN rfl ⟨_, rfl, _, _, _, _, false, rfl, .ty _, .base (.str b), kit_ty (by decide +kernel), _, rfl, iteF ?_⟩⟩
        refine ⟨_, rfl, _, _, _, _, false, rfl, .ty _, .base (.str b), kit_ty (by decide +kernel), _, rfl, iteF ?_⟩
        refine ⟨_, rfl, _, _, _, _, true, rfl, .ty _, .base (.str b), kit_ty (by decide +kernel), _, rfl, iteT ?_⟩
        exact ⟨_, rfl, _, _, _, _, true, rfl, .ty _, .base (.str b), kit_ty (by decide +kernel), _, rfl, iteT ⟨_, rfl, _, rfl, rfl, same_bit q⟩⟩
      | byt b => cases hy
      | flt b => cases hy
      | ref b => cases hy
      | ty b => cases hy
    · refine ⟨_, rfl, rfl, _, rfl, iteN rfl ?_⟩
      rcases ho with ⟨o1, o2⟩ | ⟨o1, o2⟩
      · refine ⟨_, rfl, _, _, _, _, false, rfl, .ty _, .base (.tup o2), kit_ty (by decide +kernel), _, rfl, iteF ?_⟩
        refine ⟨_, rfl, _, _, _, _, false, rfl, .ty _, .base (.tup o2), kit_ty (by decide +kernel), _, rfl, iteF ?_⟩
        refine ⟨_, rfl, _, _, _, _, false, rfl, .ty _, .base (.tup o2), kit_ty (by decide +kernel), _, rfl, iteF ?_⟩
        refine ⟨_, rfl, _, _, _, _, true, rfl, .ty _, .base (.tup o2), kit_ty (by decide +kernel), _, rfl, iteT ?_⟩
        refine ⟨_, rfl, _, _, _, _, true, rfl, .ty _, .base (.tup o1), kit_ty (by decide +kernel), _, rfl, iteF ?_⟩
        refine ⟨_, rfl, _, _, rfl, .inr ⟨_, .inl (.inl o1), rfl⟩, _, rfl, _, _, rfl, .inr ⟨_, .inl (.inl o2), rfl⟩, rfl, _, rfl, iteN (by rw [hl]; simp) ?_⟩
        refine ⟨_, rfl, _, _, rfl, .inr ⟨_, .inl (.inl o2), rfl⟩, (ys.length : Int), rfl, by omega, by omega, ?_⟩
        refine for_range (lo := 0) (n := (ys.length : Int).toNat) (fun i σ H' => ∃ z : Option V, σ = [some (.ref p), some (.ref r), z] ∧ H' = H) ⟨none, rfl, rfl⟩ ?_ ?_
        · rintro i σ H' hn ⟨z, rfl, rfl⟩
          have hn' : i < ys.length := hn
          have hx : xs[i]? = some xs[i] := List.getElem?_eq_getElem (by omega)
          have hy : ys[i]? = some ys[i] := List.getElem?_eq_getElem hn'
          refine ⟨_, rfl, _, rfl, .inr (.inl ⟨_, _, _, _, rfl, rfl, .inl (.inl o1), (by rw [Int.zero_add]; exact atI_nat hx), _, rfl, _, rfl, .inr (.inl ⟨_, _, _, _, rfl, rfl, .inl (.inl o2), (by rw [Int.zero_add]; exact atI_nat hy), _, _, rfl, hi i _ _ hx hy, _, rfl, iteN rfl ⟨_, rfl, rfl⟩⟩)⟩)⟩
        · rintro σ H' ⟨z, rfl, rfl⟩
          exact q
      · refine ⟨_, rfl, _, _, _, _, false, rfl, .ty _, .base (.lst o2), kit_ty (by decide +kernel), _, rfl, iteF ?_⟩
        refine ⟨_, rfl, _, _, _, _, false, rfl, .ty _, .base (.lst o2), kit_ty (by decide +kernel), _, rfl, iteF ?_⟩
        refine ⟨_, rfl, _, _, _, _, false, rfl, .ty _, .base (.lst o2), kit_ty (by decide +kernel), _, rfl, iteF ?_⟩
        refine ⟨_, rfl, _, _, _, _, false, rfl, .ty _, .base (.lst o2), kit_ty (by decide +kernel), _, rfl, iteF ?_⟩
        refine ⟨_, rfl, _, _, _, _, true, rfl, .ty _, .base (.lst o1), kit_ty (by decide +kernel), _, rfl, iteN rfl ⟨_, rfl, _, _, _, _, true, rfl, .ty _, .base (.lst o2), kit_ty (by decide +kernel), _, rfl, iteN rfl ?_⟩⟩
        refine ⟨_, rfl, _, _, rfl, .inl ⟨_, .inl (.inl o1), rfl⟩, _, rfl, _, _, rfl, .inl ⟨_, .inl (.inl o2), rfl⟩, rfl, _, rfl, iteN (by rw [hl]; simp) ?_⟩
        refine ⟨_, rfl, _, _, rfl, .inl ⟨_, .inl (.inl o2), rfl⟩, (ys.length : Int), rfl, by omega, by omega, ?_⟩
        refine for_range (lo := 0) (n := (ys.length : Int).toNat) (fun i σ H' => ∃ z : Option V, σ = [some (.ref p), some (.ref r), z] ∧ H' = H) ⟨none, rfl, rfl⟩ ?_ ?_
        · rintro i σ H' hn ⟨z, rfl, rfl⟩
          have hn' : i < ys.length := hn
          have hx : xs[i]? = some xs[i] := List.getElem?_eq_getElem (by omega)
          have hy : ys[i]? = some ys[i] := List.getElem?_eq_getElem hn'
          refine ⟨_, rfl, _, rfl, .inl ⟨_, _, _, _, rfl, rfl, .inl (.inl o1), (by rw [Int.zero_add]; exact atI_nat hx), _, rfl, _, rfl, .inl ⟨_, _, _, _, rfl, rfl, .inl (.inl o2), (by rw [Int.zero_add]; exact atI_nat hy), _, _, rfl, hi i _ _ hx hy, _, rfl, iteN rfl ⟨_, rfl, rfl⟩⟩⟩⟩
        · rintro σ H' ⟨z, rfl, rfl⟩
          exact q
/-- no promise at all -/
theorem fnOk_none {f : Addr} {fd : FuncData} {ps : List Str} {k : Nat} : FnOk P w K mg base CX0 k f fd ps (sp_sameR fun _ _ _ => False) :=
  ⟨fun vs H Q E h => by obtain ⟨_, _, _, h, _⟩ := h; exact h.elim, fun A outer s H args us vs Q E _ _ _ _ h => by obtain ⟨_, _, _, h, _⟩ := h; exact h.elim⟩
theorem ok_sameN (T : Txt K mg base) : ∀ n : Nat, FnOk P w K mg base CX0 (n + 1) T.f_same T.fd_same ["actual", "expected"] (sp_sameR (SameD n))
  | 0 => same_step T fnOk_none
  | n + 1 => same_step T (ok_sameN T n)
theorem ok_same (T : Txt K mg base) : FnOk P w K mg base CX0 10 T.f_same T.fd_same ["actual", "expected"] (sp_sameR (SameD 9)) := ok_sameN T 9
def sp_sameB (rel : Hp → V → V → Prop) (dp : Hp → V → Prop) : Sp := fun vs H Q _ => ∃ x y : V, vs = [x, y] ∧ dp H x ∧ dp H y ∧ ∀ b : Bool, (b = true ↔ rel H x y) → Q (.bl b) H
theorem sameB_step {rel : Hp → V → V → Prop} {dp : Hp → V → Prop} {j : Nat} (T : Txt K mg base) (G : FnOk P w K mg base CX0 j T.f_same T.fd_same ["actual", "expected"] (sp_sameB rel dp)) :
    FnOk P w K mg base CX0 (j + 1) T.f_same T.fd_same ["actual", "expected"] (sp_sameB (SameR rel) (DeepE dp)) := by
  refine T.F_same.ok sc_same (fun vs H Q E h => ?_) (fun cdv A outer s H vs Q E hr h => ?_)
  · obtain ⟨x, y, rfl, _⟩ := h
    rfl
  · obtain ⟨x, y, rfl, dx, dy, q⟩ := h
    refine ⟨_, (pss_cons (ps_if (pt_cmpR op_isN (pv 1) pe_non (nomark _)) (pss_one (ps_ret (pe_cmpR op_isN (pv 0) pe_non (nomark _)))) pss_nil)
      (pss_cons (ps_if (pt_val (pe_callB call_isi (by rfl) T.z_isinstance (by decide +kernel) (pa_cons (pv 1) (pa_cons (pe_bltn (v := .ty "bool") (by rfl) T.z_bool (by decide +kernel) rfl) pa_nil)))) (pss_one (ps_ret (pe_and (pe_callB call_isi (by rfl) T.z_isinstance (by decide +kernel) (pa_cons (pv 0) (pa_cons (pe_bltn (v := .ty "bool") (by rfl) T.z_bool (by decide +kernel) rfl) pa_nil))) (pe_one (pe_cmpR op_eq (pv 0) (pv 1) (nomark _)))))) pss_nil)
      (pss_cons (ps_if (pt_val (pe_callB call_isi (by rfl) T.z_isinstance (by decide +kernel) (pa_cons (pv 1) (pa_cons (pe_bltn (v := .ty "int") (by rfl) T.z_int (by decide +kernel) rfl) pa_nil)))) (pss_one (ps_ret (pe_and (pe_callB call_isi (by rfl) T.z_isinstance (by decide +kernel) (pa_cons (pv 0) (pa_cons (pe_bltn (v := .ty "int") (by rfl) T.z_int (by decide +kernel) rfl) pa_nil))) (pe_and (pe_not (pe_callB call_isi (by rfl) T.z_isinstance (by decide +kernel) (pa_cons (pv 0) (pa_cons (pe_bltn (v := .ty "bool") (by rfl) T.z_bool (by decide +kernel) rfl) pa_nil)))) (pe_one (pe_cmpR op_eq (pv 0) (pv 1) (nomark _))))))) pss_nil)
      (pss_cons (ps_if (pt_val (pe_callB call_isi (by rfl) T.z_isinstance (by decide +kernel) (pa_cons (pv 1) (pa_cons (pe_bltn (v := .ty "str") (by rfl) T.z_str (by decide +kernel) rfl) pa_nil)))) (pss_one (ps_ret (pe_and (pe_callB call_isi (by rfl) T.z_isinstance (by decide +kernel) (pa_cons (pv 0) (pa_cons (pe_bltn (v := .ty "str") (by rfl) T.z_str (by decide +kernel) rfl) pa_nil))) (pe_one (pe_cmpR op_eq (pv 0) (pv 1) (nomark _)))))) pss_nil)
      (pss_cons (ps_if (pt_val (pe_callB call_isi (by rfl) T.z_isinstance (by decide +kernel) (pa_cons (pv 1) (pa_cons (pe_bltn (v := .ty "tuple") (by rfl) T.z_tuple (by decide +kernel) rfl) pa_nil)))) (pss_one (ps_if (pt_not (pt_val (pe_callB call_isi (by rfl) T.z_isinstance (by decide +kernel) (pa_cons (pv 0) (pa_cons (pe_bltn (v := .ty "tuple") (by rfl) T.z_tuple (by decide +kernel) rfl) pa_nil))))) (pss_one (ps_ret pe_bl)) pss_nil)) (pss_one (ps_if (PW.pt (pw_or (pt_not (pt_val (pe_callB call_isi (by rfl) T.z_isinstance (by decide +kernel) (pa_cons (pv 0) (pa_cons (pe_bltn (v := .ty "list") (by rfl) T.z_list (by decide +kernel) rfl) pa_nil))))) (pw_or1 (pt_not (pt_val (pe_callB call_isi (by rfl) T.z_isinstance (by decide +kernel) (pa_cons (pv 1) (pa_cons (pe_bltn (v := .ty "list") (by rfl) T.z_list (by decide +kernel) rfl) pa_nil)))))))) (pss_one (ps_ret pe_bl)) pss_nil)))
      (pss_cons (ps_if (pt_cmpR op_ne (pe_callB call_len (by rfl) T.z_len PySem.boot_len (pa_cons (pv 0) pa_nil)) (pe_callB call_len (by rfl) T.z_len PySem.boot_len (pa_cons (pv 1) pa_nil)) (nomark _)) (pss_one (ps_ret pe_bl)) pss_nil)
      (pss_cons (ps_for PassesOwn.never rfl (pi_range1 (by rfl) T.z_range (pa_cons (pe_callB call_len (by rfl) T.z_len PySem.boot_len (pa_cons (pv 1) pa_nil)) pa_nil)) (pg_name (i := 2) sc_same.nd rfl (.inl rfl)) (pss_one (ps_if (pt_not (pt_val (pe_call G (hr.mono (by first | decide | exact Nat.le_refl _)) (by rfl) T.g_same T.F_same.kp T.b_same .nil pass0 (pa_cons (pe_ix ix_seq (pv 0) (pv 2) (fun _ _ => rfl)) (pa_cons (pe_ix ix_seq (pv 1) (pv 2) (fun _ _ => rfl)) pa_nil))))) (pss_one (ps_ret pe_bl)) pss_nil)))
      (pss_one (ps_ret pe_bl))))))))), ?_⟩
    have sx := dx.shal
    have atom : plainV y = true → ∀ b : Bool, (b = true ↔ x = y) → Q (.bl b) H := fun pl b e => q b (e.trans (same_atom pl).symm)
    cases y with
    | non => exact ⟨_, rfl, rfl, _, rfl, iteC rfl ⟨_, rfl, rfl, atom rfl _ decide_eq_true_iff⟩⟩
    | bl b =>
      refine ⟨_, rfl, rfl, _, rfl, iteN rfl ⟨_, rfl, _, _, _, _, true, rfl, .ty _, .base (.bl b), kit_ty (by decide +kernel), _, rfl, iteT ?_⟩⟩
      obtain ⟨t, ht, kt⟩ := isi_bool (K := K) sx
      refine ⟨_, rfl, _, _, _, _, _, rfl, .ty _, ht, kt, _, rfl, ?_⟩
      cases e : isBl x with
      | false => exact iteF (atom rfl false ⟨fun h => (by cases h), fun h => by rw [h] at e; cases e⟩)
      | true =>
        have : scal x (.bl b) = true := by
          cases x <;> first | rfl | cases e
        exact iteT ⟨_, rfl, _, rfl, this, atom rfl _ decide_eq_true_iff⟩
    | int b =>
      refine ⟨_, rfl, rfl, _, rfl, iteN rfl ⟨_, rfl, _, _, _, _, false, rfl, .ty _, .base (.int b), kit_ty (by decide +kernel), _, rfl, iteF ?_⟩⟩
      refine ⟨_, rfl, _, _, _, _, true, rfl, .ty _, .base (.int b), kit_ty (by decide +kernel), _, rfl, iteT ?_⟩
      obtain ⟨t, ht, kt⟩ := isi_int (K := K) sx
      obtain ⟨t2, ht2, kt2⟩ := isi_bool (K := K) sx
      refine ⟨_, rfl, _, _, _, _, _, rfl, .ty _, ht, kt, _, rfl, ?_⟩
      cases e : (isInt x || isBl x) with
      | false => exact iteF (atom rfl false ⟨fun h => (by cases h), fun h => by rw [h] at e; cases e⟩)
      | true =>
        refine iteT ⟨_, rfl, _, _, _, _, _, rfl, .ty _, ht2, kt2, _, rfl, _, rfl, ?_⟩
        cases e2 : isBl x with
        | true => exact iteF (atom rfl false ⟨fun h => (by cases h), fun h => by rw [h] at e2; cases e2⟩)
        | false =>
          have : scal x (.int b) = true := by
            cases x <;> first | rfl | (cases e2; done) | (cases e; done)
          exact iteT ⟨_, rfl, _, rfl, this, atom rfl _ decide_eq_true_iff⟩
    | str b =>
      refine ⟨_, rfl, rfl, _, rfl, iteN rfl ⟨_, rfl, _, _, _, _, false, rfl, .ty _, .base (.str b), kit_ty (by decide +kernel), _, rfl, iteF ?_⟩⟩
      refine ⟨_, rfl, _, _, _, _, false, rfl, .ty _, .base (.str b), kit_ty (by decide +kernel), _, rfl, iteF ?_⟩
      refine ⟨_, rfl, _, _, _, _, true, rfl, .ty _, .base (.str b), kit_ty (by decide +kernel), _, rfl, iteT ?_⟩
      obtain ⟨t, ht, kt⟩ := isi_str (K := K) sx
      refine ⟨_, rfl, _, _, _, _, _, rfl, .ty _, ht, kt, _, rfl, ?_⟩
      cases e : isStr x with
      | false => exact iteF (atom rfl false ⟨fun h => (by cases h), fun h => by rw [h] at e; cases e⟩)
      | true =>
        have : scal x (.str b) = true := by
          cases x <;> first | rfl | cases e
        exact iteT ⟨_, rfl, _, rfl, this, atom rfl _ decide_eq_true_iff⟩
    | byt b => rcases dy with ⟨pl, _⟩ | ⟨r, ys, e, _⟩ <;> first | cases pl | cases e
    | flt b => rcases dy with ⟨pl, _⟩ | ⟨r, ys, e, _⟩ <;> first | cases pl | cases e
    | ty b => rcases dy with ⟨pl, _⟩ | ⟨r, ys, e, _⟩ <;> first | cases pl | cases e
    | ref r =>
      rcases dy with ⟨pl, _⟩ | ⟨r', ys, e, o, ly, hy⟩
      · cases pl
      cases e
      refine ⟨_, rfl, rfl, _, rfl, iteN rfl ?_⟩
      rcases o with o2 | o2
      · refine ⟨_, rfl, _, _, _, _, false, rfl, .ty _, .base (.lst o2), kit_ty (by decide +kernel), _, rfl, iteF ?_⟩
        refine ⟨_, rfl, _, _, _, _, false, rfl, .ty _, .base (.lst o2), kit_ty (by decide +kernel), _, rfl, iteF ?_⟩
        refine ⟨_, rfl, _, _, _, _, false, rfl, .ty _, .base (.lst o2), kit_ty (by decide +kernel), _, rfl, iteF ?_⟩
        refine ⟨_, rfl, _, _, _, _, false, rfl, .ty _, .base (.lst o2), kit_ty (by decide +kernel), _, rfl, iteF ?_⟩
        obtain ⟨t, b, ht, kt, hb⟩ := isi_lst (K := K) sx
        refine ⟨_, rfl, _, _, _, _, _, rfl, .ty _, ht, kt, _, rfl, ?_⟩
        cases b with
        | false =>
          refine iteC rfl (iteC rfl (q false ⟨fun h => (by cases h), fun h => ?_⟩))
          rcases h with ⟨e, pl⟩ | ⟨p', q', xs', ys', e1, e2, h, _⟩
          · cases pl
          · cases e2
            have z : false = true := (h.elim (fun z => (by rw [z.2] at o2; cases o2)) fun z => hb.mpr ⟨p', xs', e1, z.1⟩)
            cases z
        | true =>
        obtain ⟨p, xs, rfl, o1⟩ := hb.mp rfl
        refine iteN rfl ⟨_, rfl, _, _, _, _, true, rfl, .ty _, .base (.lst o2), kit_ty (by decide +kernel), _, rfl, iteN rfl ?_⟩
        have hx : xs.length ≤ 1000000 ∧ ∀ x ∈ xs, dp H x := by
          rcases dx with ⟨pl, _⟩ | ⟨p', xs', e, o, l, h⟩
          · cases pl
          · cases e
            have := same_row o (.inl o1)
            subst this
            exact ⟨l, h⟩
        refine ⟨_, rfl, _, _, rfl, .inl ⟨_, .inl (.inl o1), rfl⟩, _, rfl, _, _, rfl, .inl ⟨_, .inl (.inl o2), rfl⟩, rfl, _, rfl, ?_⟩
        have rows : ∀ h : SameR rel H (.ref p) (.ref r), xs.length = ys.length ∧ ∀ (i : Nat) (x' y' : V), xs[i]? = some x' → ys[i]? = some y' → rel H x' y' := fun h => by
          rcases h with ⟨_, pl⟩ | ⟨p', q', xs', ys', e1, e2, h, l, _, rr⟩
          · cases pl
          · cases e1
            cases e2
            have g1 := same_row (h.elim (fun z => .inr z.1) fun z => .inl z.1) (.inl o1)
            have g2 := same_row (h.elim (fun z => .inr z.2) fun z => .inl z.2) (.inl o2)
            subst g1
            subst g2
            exact ⟨l, rr⟩
        by_cases hl : xs.length = ys.length
        · refine iteN (by rw [hl]; simp) ?_
          refine ⟨_, rfl, _, _, rfl, .inl ⟨_, .inl (.inl o2), rfl⟩, (ys.length : Int), rfl, by omega, by omega, ?_⟩
          refine for_range (lo := 0) (n := (ys.length : Int).toNat) (fun i σ H' => ∃ z : Option V, σ = [some (.ref p), some (.ref r), z] ∧ H' = H ∧ ∀ k : Nat, k < i → ∀ x' y' : V, xs[k]? = some x' → ys[k]? = some y' → rel H x' y') ⟨none, rfl, rfl, fun k h => by omega⟩ ?_ ?_
          · rintro i σ H' hn ⟨z, rfl, rfl, done⟩
            have hn' : i < ys.length := hn
            have hx' : xs[i]? = some xs[i] := List.getElem?_eq_getElem (by omega)
            have hy' : ys[i]? = some ys[i] := List.getElem?_eq_getElem hn'
            refine ⟨_, rfl, _, rfl, .inl ⟨_, _, _, _, rfl, rfl, .inl (.inl o1), (by rw [Int.zero_add]; exact atI_nat hx'), _, rfl, _, rfl, .inl ⟨_, _, _, _, rfl, rfl, .inl (.inl o2), (by rw [Int.zero_add]; exact atI_nat hy'), _, _, rfl, hx.2 _ (List.getElem_mem _), hy _ (List.getElem_mem _), fun b hb => ⟨_, rfl, ?_⟩⟩⟩⟩
            cases b with
            | false =>
              refine iteC rfl (q false ⟨fun h => (by cases h), fun h => ?_⟩)
              cases hb.mpr ((rows h).2 i _ _ hx' hy')
            | true =>
              refine iteN rfl ⟨_, rfl, rfl, fun k hk x' y' ex ey => ?_⟩
              by_cases g : k < i
              · exact done k g x' y' ex ey
              · have g : k = i := by omega
                subst g
                rw [hx'] at ex
                rw [hy'] at ey
                cases ex
                cases ey
                exact hb.mp rfl
          · rintro σ H' ⟨z, rfl, rfl, done⟩
            refine q true ⟨fun _ => .inr ⟨p, r, xs, ys, rfl, rfl, .inr ⟨o1, o2⟩, hl, ly, fun i x' y' ex ey => done i ?_ x' y' ex ey⟩, fun _ => rfl⟩
            have := (List.getElem?_eq_some_iff.mp ey).1
            show i < (ys.length : Int).toNat
            omega
        · refine iteC (by rw [decide_eq_false (fun e => hl (by have := V.int.inj e; omega))]; rfl) (q false ⟨fun h => (by cases h), fun h => (hl (rows h).1).elim⟩)
      · refine ⟨_, rfl, _, _, _, _, false, rfl, .ty _, .base (.tup o2), kit_ty (by decide +kernel), _, rfl, iteF ?_⟩
        refine ⟨_, rfl, _, _, _, _, false, rfl, .ty _, .base (.tup o2), kit_ty (by decide +kernel), _, rfl, iteF ?_⟩
        refine ⟨_, rfl, _, _, _, _, false, rfl, .ty _, .base (.tup o2), kit_ty (by decide +kernel), _, rfl, iteF ?_⟩
        refine ⟨_, rfl, _, _, _, _, true, rfl, .ty _, .base (.tup o2), kit_ty (by decide +kernel), _, rfl, iteT ?_⟩
        obtain ⟨t, b, ht, kt, hb⟩ := isi_tup (K := K) sx
        refine ⟨_, rfl, _, _, _, _, _, rfl, .ty _, ht, kt, _, rfl, ?_⟩
        cases b with
        | false =>
          refine iteC rfl (q false ⟨fun h => (by cases h), fun h => ?_⟩)
          rcases h with ⟨e, pl⟩ | ⟨p', q', xs', ys', e1, e2, h, _⟩
          · cases pl
          · cases e2
            have z : false = true := (h.elim (fun z => hb.mpr ⟨p', xs', e1, z.1⟩) fun z => (by rw [z.2] at o2; cases o2))
            cases z
        | true =>
        obtain ⟨p, xs, rfl, o1⟩ := hb.mp rfl
        refine iteF ?_
        have hx : xs.length ≤ 1000000 ∧ ∀ x ∈ xs, dp H x := by
          rcases dx with ⟨pl, _⟩ | ⟨p', xs', e, o, l, h⟩
          · cases pl
          · cases e
            have := same_row o (.inr o1)
            subst this
            exact ⟨l, h⟩
        refine ⟨_, rfl, _, _, rfl, .inr ⟨_, .inl (.inl o1), rfl⟩, _, rfl, _, _, rfl, .inr ⟨_, .inl (.inl o2), rfl⟩, rfl, _, rfl, ?_⟩
        have rows : ∀ h : SameR rel H (.ref p) (.ref r), xs.length = ys.length ∧ ∀ (i : Nat) (x' y' : V), xs[i]? = some x' → ys[i]? = some y' → rel H x' y' := fun h => by
          rcases h with ⟨_, pl⟩ | ⟨p', q', xs', ys', e1, e2, h, l, _, rr⟩
          · cases pl
          · cases e1
            cases e2
            have g1 := same_row (h.elim (fun z => .inr z.1) fun z => .inl z.1) (.inr o1)
            have g2 := same_row (h.elim (fun z => .inr z.2) fun z => .inl z.2) (.inr o2)
            subst g1
            subst g2
            exact ⟨l, rr⟩
        by_cases hl : xs.length = ys.length
        · refine iteN (by rw [hl]; simp) ?_
          refine ⟨_, rfl, _, _, rfl, .inr ⟨_, .inl (.inl o2), rfl⟩, (ys.length : Int), rfl, by omega, by omega, ?_⟩
          refine for_range (lo := 0) (n := (ys.length : Int).toNat) (fun i σ H' => ∃ z : Option V, σ = [some (.ref p), some (.ref r), z] ∧ H' = H ∧ ∀ k : Nat, k < i → ∀ x' y' : V, xs[k]? = some x' → ys[k]? = some y' → rel H x' y') ⟨none, rfl, rfl, fun k h => by omega⟩ ?_ ?_
          · rintro i σ H' hn ⟨z, rfl, rfl, done⟩
            have hn' : i < ys.length := hn
            have hx' : xs[i]? = some xs[i] := List.getElem?_eq_getElem (by omega)
            have hy' : ys[i]? = some ys[i] := List.getElem?_eq_getElem hn'
            refine ⟨_, rfl, _, rfl, .inr (.inl ⟨_, _, _, _, rfl, rfl, .inl (.inl o1), (by rw [Int.zero_add]; exact atI_nat hx'), _, rfl, _, rfl, .inr (.inl ⟨_, _, _, _, rfl, rfl, .inl (.inl o2), (by rw [Int.zero_add]; exact atI_nat hy'), _, _, rfl, hx.2 _ (List.getElem_mem _), hy _ (List.getElem_mem _), fun b hb => ⟨_, rfl, ?_⟩⟩)⟩)⟩
            cases b with
            | false =>
              refine iteC rfl (q false ⟨fun h => (by cases h), fun h => ?_⟩)
              cases hb.mpr ((rows h).2 i _ _ hx' hy')
            | true =>
              refine iteN rfl ⟨_, rfl, rfl, fun k hk x' y' ex ey => ?_⟩
              by_cases g : k < i
              · exact done k g x' y' ex ey
              · have g : k = i := by omega
                subst g
                rw [hx'] at ex
                rw [hy'] at ey
                cases ex
                cases ey
                exact hb.mp rfl
          · rintro σ H' ⟨z, rfl, rfl, done⟩
            refine q true ⟨fun _ => .inr ⟨p, r, xs, ys, rfl, rfl, .inl ⟨o1, o2⟩, hl, ly, fun i x' y' ex ey => done i ?_ x' y' ex ey⟩, fun _ => rfl⟩
            have := (List.getElem?_eq_some_iff.mp ey).1
            show i < (ys.length : Int).toNat
            omega
        · refine iteC (by rw [decide_eq_false (fun e => hl (by have := V.int.inj e; omega))]; rfl) (q false ⟨fun h => (by cases h), fun h => (hl (rows h).1).elim⟩)
theorem fnOk_noSame {f : Addr} {fd : FuncData} {ps : List Str} {k : Nat} : FnOk P w K mg base CX0 k f fd ps (sp_sameB (fun _ _ _ => False) fun _ _ => False) :=
  ⟨fun vs H Q E h => by obtain ⟨_, _, _, h, _⟩ := h; exact h.elim, fun A outer s H args us vs Q E _ _ _ _ h => by obtain ⟨_, _, _, h, _⟩ := h; exact h.elim⟩
theorem ok_sameBN (T : Txt K mg base) : ∀ n : Nat, FnOk P w K mg base CX0 (n + 1) T.f_same T.fd_same ["actual", "expected"] (sp_sameB (SameD n) (DeepN n))
  | 0 => sameB_step T fnOk_noSame
  | n + 1 => sameB_step T (ok_sameBN T n)
theorem ok_sameB (T : Txt K mg base) : FnOk P w K mg base CX0 10 T.f_same T.fd_same ["actual", "expected"] (sp_sameB (SameD 9) (DeepN 9)) := ok_sameBN T 9

def sp_moved_arcs [Tabl] (K : PySem.W.Frag) : Sp := fun vs H Q _ => ∃ (b N : Addr) (os : List Int) (bx : List V) (bd : List EnS.Arc) (ps : List (L2.Key × V)), vs = [.ref b, .ref N] ∧ H b = some (.lst bx) ∧ EntL aimg H bx bd ∧ bx.length ≤ 1000 ∧ H N = some (.dK ps) ∧
  (∀ x ∈ bd, ∀ G : Hp, G N = some (.dK ps) → DGet G N (.int x.1) (some (.int (mvI os x.1))) ∧ DGet G N (.int x.2.2.2) (some (.int (mvI os x.2.2.2)))) ∧
  ∀ (l : Addr) (ys : List V) (H' : Hp), Same H H' → H' N = some (.dK ps) → H l = none → H' l = some (.lst ys) → EntL aimg H' ys (bd.map (mvA os)) → Q (.ref l) H'
theorem ok_moved_arcs (T : Txt K mg base) : FnOk P w K mg base CX0 (0 + 1) T.f_moved_arcs T.fd_moved_arcs ["arcs", "numbers"] (sp_moved_arcs K) := by
  refine T.F_moved_arcs.ok sc_moved_arcs (fun vs H Q E h => ?_) (fun cdv A outer s H vs Q E hr h => ?_)
  · obtain ⟨b, N, os, bx, bd, ps, rfl, _⟩ := h
    rfl
  · obtain ⟨b, N, os, bx, bd, ps, rfl, hb, eb, lb, hN, get, q⟩ := h
    refine ⟨_, (pss_cons (ps_setLc (i := 2) (own := [("arc", 3)]) (g := gName 3) rfl sc_moved_arcs.nd rfl rfl (sw_true rfl rfl rfl (by decide +kernel)) (pi_list (pv 0)) (blkOk_by (N := ["arcs", "numbers", "kept", "arc", "source", "letter", "word", "target"]) (sc := defScope s_moved_arcs) (by decide +kernel)) (fun _ _ _ _ _ => pg_name (i := 3) sc_moved_arcs.nd rfl (Or.inl rfl)) (fun _ _ _ _ _ => (pts_one (PW.pt (pw_and (pt_cmp (pc_din (hu1 hr.units) (pe_ix (ix_tupK K rfl) (pv 3) pe_int (fun _ _ => rfl)) (pv 1)) rfl) (pw_and1 (pt_cmp (pc_din (hu1 hr.units) (pe_ix (ix_tupK K rfl) (pv 3) pe_int (fun _ _ => rfl)) (pv 1)) rfl)))))) (fun _ _ _ _ _ => (pv 3)))
      (pss_one (ps_ret (pe_lc (own := [("source", 4), ("letter", 5), ("word", 6), ("target", 7)]) (g := gTup K 4 (gCons (gName 4) (gCons (gName 5) (gCons (gName 6) (gCons (gName 7) gNil))))) rfl sc_moved_arcs.nd (pi_list (pv 2)) (blkOk_by (N := ["arcs", "numbers", "kept", "arc", "source", "letter", "word", "target"]) (sc := defScope s_moved_arcs) (by decide +kernel)) (fun _ _ _ _ _ => pg_tup (n := 4) (by rfl) (pgs_cons (pg_name (i := 4) sc_moved_arcs.nd rfl (Or.inl rfl)) (pgs_cons (pg_name (i := 5) sc_moved_arcs.nd rfl (Or.inl rfl)) (pgs_cons (pg_name (i := 6) sc_moved_arcs.nd rfl (Or.inl rfl)) (pgs_cons (pg_name (i := 7) sc_moved_arcs.nd rfl (Or.inl rfl)) pgs_nil))))) (fun _ _ _ _ _ => pts_nil) (fun _ _ _ _ _ => (pe_tup (pa_cons (pe_dget (hu1 hr.units) (pv 1) (pv 4) (fun _ _ => rfl)) (pa_cons (pv 5) (pa_cons (pv 6) (pa_cons (pe_dget (hu1 hr.units) (pv 1) (pv 7) (fun _ _ => rfl)) pa_nil)))))))))), ?_⟩
    have lx := eb.len
    refine ⟨_, rfl, b, rfl, ⟨_, .inl (.inl hb)⟩, fun M nM => ?_⟩
    have NM : N ≠ M := fun e => by rw [← e, hN] at nM; cases nM
    have k0 := same_new (o := .lst []) nM
    refine lc_list (K := K) (a := b) (xs := bx) (fun i H' => Same H H' ∧ H' N = some (.dK ps) ∧ H' M = some (.lst (bx.take i)))
      ⟨k0, by rw [upd_ne NM]; exact hN, upd_same⟩ (fun i H' _ h => .inl (.inl (h.1 _ _ hb))) ?_ ?_
    · rintro i v Hg hv ⟨sg, hNg, hMg⟩
      obtain ⟨x, t, hx, rfl, ht⟩ := eb.get hv
      have htg := sg _ _ ht
      have ix := (List.getElem?_eq_some_iff.mp hx).1
      obtain ⟨d1, d2⟩ := get x (List.mem_of_getElem? hx) Hg hNg
      refine ⟨rfl, _, rfl, _, _, _, _, rfl, rfl, .inl (.inl htg), rfl, _, rfl, N, _, rfl, d1, _, rfl, iteC rfl ⟨_, rfl, _, _, _, _, rfl, rfl, .inl (.inl htg), rfl, _, rfl, N, _, rfl, d2, _, rfl, iteC rfl ⟨_, rfl, _, hMg, ?_, Same.grown (.refl H) nM sg hMg, by rw [upd_ne NM]; exact hNg, ?_⟩⟩⟩
      · rw [List.length_take]
        exact Nat.lt_of_le_of_lt (by omega : _ ≤ 1000) (by decide)
      · rw [upd_same, List.take_add_one, hv]
        rfl
    rintro H1 ⟨s1, hN1, hM⟩
    rw [List.take_length] at hM
    have eb := eb.same s1
    refine ⟨_, rfl, M, rfl, ⟨_, .inl (.inl hM)⟩, fun D nD => ?_⟩
    have ND : N ≠ D := fun e => by rw [← e, hN1] at nD; cases nD
    have k1 := same_new (o := .lst []) nD
    refine lc_list (K := K) (a := M) (xs := bx) (fun i H' => Same H1 H' ∧ H' N = some (.dK ps) ∧ ∃ ys, H' D = some (.lst ys) ∧ EntL aimg H' ys ((bd.take i).map (mvA os)))
      ⟨k1, by rw [upd_ne ND]; exact hN1, [], upd_same, .nil⟩ (fun i H' _ h => .inl (.inl (h.1 _ _ hM))) ?_ ?_
    · rintro i v Hg hv ⟨sg, hNg, ys, hDg, eng⟩
      obtain ⟨x, t, hx, rfl, ht⟩ := eb.get hv
      have htg := sg _ _ ht
      have ix := (List.getElem?_eq_some_iff.mp hx).1
      obtain ⟨d1, d2⟩ := get x (List.mem_of_getElem? hx) Hg hNg
      refine ⟨t, _, rfl, .inl (.inl htg), rfl, _, _, rfl, _, _, rfl, _, _, rfl, _, _, rfl, rfl, rfl, _, rfl, _, rfl, N, _, rfl, d1, _, rfl, _, rfl, _, rfl, _, rfl, N, _, rfl, d2, by show 4 ≤ sizeLine; decide, fun u nu => ?_⟩
      have kg := same_new (o := .tup [.int (mvI os x.1), .str x.2.1, .str x.2.2.1, .int (mvI os x.2.2.2)]) nu
      have hu : (upd Hg u (.tup [.int (mvI os x.1), .str x.2.1, .str x.2.2.1, .int (mvI os x.2.2.2)])) u = some (.tup (aimg (mvA os x))) := upd_same
      have hDh := kg _ _ hDg
      have uN : N ≠ u := fun e => by rw [← e, hNg] at nu; cases nu
      have hNh : (upd Hg u (.tup [.int (mvI os x.1), .str x.2.1, .str x.2.2.1, .int (mvI os x.2.2.2)])) N = some (.dK ps) := by rw [upd_ne uN]; exact hNg
      have enh := eng.same kg
      generalize upd Hg u (.tup [.int (mvI os x.1), .str x.2.1, .str x.2.2.1, .int (mvI os x.2.2.2)]) = Hh at kg hu hDh hNh enh ⊢
      refine ⟨_, hDh, ?_, Same.grown (.refl H1) nD (sg.trans kg) hDh, by rw [upd_ne ND]; exact hNh, _, upd_same, ?_⟩
      · rw [enh.len]
        simp only [List.length_map, List.length_take]
        exact Nat.lt_of_le_of_lt (by omega : _ ≤ 1000) (by decide)
      · rw [List.take_add_one, hx]
        have := (enh.snoc hu).butN (But.put (o := .lst (ys ++ [.ref u])) hDh) (fun zs e => by rw [hDh] at e; cases e)
        rw [List.map_append]
        exact this
    · rintro Hg ⟨sg, hNg, ys, hDg, eng⟩
      rw [List.take_of_length_le (by omega)] at eng
      exact q D ys Hg (s1.trans sg) hNg (s1.free nD) hDg eng

def sp_moved_pairs [Tabl] (K : PySem.W.Frag) : Sp := fun vs H Q _ => ∃ (b N : Addr) (os : List Int) (bx : List V) (bd : List (Int × Str)) (ps : List (L2.Key × V)), vs = [.ref b, .ref N] ∧ H b = some (.lst bx) ∧ EntL pimg H bx bd ∧ bx.length ≤ 1000 ∧ H N = some (.dK ps) ∧
  (∀ x ∈ bd, ∀ G : Hp, G N = some (.dK ps) → DGet G N (.int x.1) (some (.int (mvI os x.1)))) ∧
  ∀ (l : Addr) (ys : List V) (H' : Hp), Same H H' → H' N = some (.dK ps) → H l = none → H' l = some (.lst ys) → EntL pimg H' ys (bd.map (mvP os)) → Q (.ref l) H'
theorem ok_moved_pairs (T : Txt K mg base) : FnOk P w K mg base CX0 (0 + 1) T.f_moved_pairs T.fd_moved_pairs ["pairs", "numbers"] (sp_moved_pairs K) := by
  refine T.F_moved_pairs.ok sc_moved_pairs (fun vs H Q E h => ?_) (fun cdv A outer s H vs Q E hr h => ?_)
  · obtain ⟨b, N, os, bx, bd, ps, rfl, _⟩ := h
    rfl
  · obtain ⟨b, N, os, bx, bd, ps, rfl, hb, eb, lb, hN, get, q⟩ := h
    refine ⟨_, (pss_one (ps_ret (pe_lc (own := [("state", 2), ("word", 3)]) (g := gTup K 2 (gCons (gName 2) (gCons (gName 3) gNil))) rfl sc_moved_pairs.nd (pi_list (pv 0)) (blkOk_by (N := ["pairs", "numbers", "state", "word"]) (sc := defScope s_moved_pairs) (by decide +kernel)) (fun _ _ _ _ _ => pg_tup (n := 2) (by rfl) (pgs_cons (pg_name (i := 2) sc_moved_pairs.nd rfl (Or.inl rfl)) (pgs_cons (pg_name (i := 3) sc_moved_pairs.nd rfl (Or.inl rfl)) pgs_nil))) (fun _ _ _ _ _ => (pts_one (pt_cmp (pc_din (hu1 hr.units) (pv 2) (pv 1)) rfl))) (fun _ _ _ _ _ => (pe_tup (pa_cons (pe_dget (hu1 hr.units) (pv 1) (pv 2) (fun _ _ => rfl)) (pa_cons (pv 3) pa_nil))))))), ?_⟩
    refine ⟨_, rfl, b, rfl, ⟨_, .inl (.inl hb)⟩, fun D nD => ?_⟩
    have ND : N ≠ D := fun e => by rw [← e, hN] at nD; cases nD
    have k1 := same_new (o := .lst []) nD
    refine lc_list (K := K) (a := b) (xs := bx) (fun i H' => Same H H' ∧ H' N = some (.dK ps) ∧ ∃ ys, H' D = some (.lst ys) ∧ EntL pimg H' ys ((bd.take i).map (mvP os)))
      ⟨k1, by rw [upd_ne ND]; exact hN, [], upd_same, .nil⟩ (fun i H' _ h => .inl (.inl (h.1 _ _ hb))) ?_ ?_
    · rintro i v Hg hv ⟨sg, hNg, ys, hDg, eng⟩
      obtain ⟨x, t, hx, rfl, ht⟩ := eb.get hv
      have htg := sg _ _ ht
      have ix := (List.getElem?_eq_some_iff.mp hx).1
      have lx := eb.len
      have dg := get x (List.mem_of_getElem? hx) Hg hNg
      refine ⟨t, _, rfl, .inl (.inl htg), rfl, _, _, rfl, _, _, rfl, rfl, rfl, _, rfl, _, rfl, N, _, rfl, dg, _, rfl, iteC rfl ⟨_, rfl, _, rfl, N, _, rfl, dg, _, rfl, by show 2 ≤ sizeLine; decide, fun u nu => ?_⟩⟩
      have kg := same_new (o := .tup [.int (mvI os x.1), .str x.2]) nu
      have hu : (upd Hg u (.tup [.int (mvI os x.1), .str x.2])) u = some (.tup (pimg (mvP os x))) := upd_same
      have hDh := kg _ _ hDg
      have uN : N ≠ u := fun e => by rw [← e, hNg] at nu; cases nu
      have hNh : (upd Hg u (.tup [.int (mvI os x.1), .str x.2])) N = some (.dK ps) := by rw [upd_ne uN]; exact hNg
      have enh := eng.same kg
      generalize upd Hg u (.tup [.int (mvI os x.1), .str x.2]) = Hh at kg hu hDh hNh enh ⊢
      refine ⟨_, hDh, ?_, Same.grown (.refl H) nD (sg.trans kg) hDh, by rw [upd_ne ND]; exact hNh, _, upd_same, ?_⟩
      · rw [enh.len]
        simp only [List.length_map, List.length_take]
        exact Nat.lt_of_le_of_lt (by omega : _ ≤ 1000) (by decide)
      · rw [List.take_add_one, hx]
        have := (enh.snoc hu).butN (But.put (o := .lst (ys ++ [.ref u])) hDh) (fun zs e => by rw [hDh] at e; cases e)
        rw [List.map_append]
        exact this
    · rintro Hg ⟨sg, hNg, ys, hDg, eng⟩
      have lx := eb.len
      rw [List.take_of_length_le (by omega)] at eng
      exact q D ys Hg sg hNg nD hDg eng

def sp_moved_machine [Tabl] (C : Addr) (K : PySem.W.Frag) : Sp := fun vs H Q _ => ∃ (m N : Addr) (os : List Int) (ps : List (L2.Key × V)) (r z : Str) (n : Int) (dx b a e : Addr) (bx ax ex : List V) (bd : List (Int × Str)) (ad : List EnS.Arc) (ed : List (Int × Str)), vs = [.ref m, .int n, .ref N] ∧ MA C H m r z n dx b a e bx ax ex bd ad ed ∧ H N = some (.dK ps) ∧ Good H ∧
  GoodM r z n (bd.map (mvP os)) (ad.map (mvA os)) (ed.map (mvP os)) ∧ bd.length ≤ 400 ∧ ad.length ≤ 400 ∧ ed.length ≤ 400 ∧
  (∀ x ∈ bd, ∀ G : Hp, G N = some (.dK ps) → DGet G N (.int x.1) (some (.int (mvI os x.1)))) ∧
  (∀ x ∈ ad, ∀ G : Hp, G N = some (.dK ps) → DGet G N (.int x.1) (some (.int (mvI os x.1))) ∧ DGet G N (.int x.2.2.2) (some (.int (mvI os x.2.2.2)))) ∧
  (∀ x ∈ ed, ∀ G : Hp, G N = some (.dK ps) → DGet G N (.int x.1) (some (.int (mvI os x.1)))) ∧
  ∀ (m' : Addr) (H' : Hp), Same H H' → H m' = none → Mach C H' m' r z n (bd.map (mvP os)) (ad.map (mvA os)) (ed.map (mvP os)) → Young C H H' m' → Q (.ref m') H'
theorem ok_moved_machine (T : Txt K mg base) : FnOk P w K mg base CX0 (8 + 1) T.f_moved_machine T.fd_moved_machine ["machine", "size", "numbers"] (sp_moved_machine T.C_Machine K) := by
  refine T.F_moved_machine.ok sc_moved_machine (fun vs H Q E h => ?_) (fun cdv A outer s H vs Q E hr h => ?_)
  · obtain ⟨m, N, os, ps, r, z, n, dx, b, a, e, bx, ax, ex, bd, ad, ed, rfl, _⟩ := h
    rfl
  · obtain ⟨m0, N, os, ps, r, z, n, dx, b, a, e, bx, ax, ex, bd, ad, ed, rfl, M, hN, good, g, lb, la, le, gb, ga, ge, q⟩ := h
    refine ⟨_, (pss_cons (ps_set (i := 3) sc_moved_machine.nd rfl (.inl rfl) (pe_call (ok_moved_pairs T) (hr.mono (by first | decide | exact Nat.le_refl _)) (by rfl) T.g_moved_pairs T.F_moved_pairs.kp T.b_moved_pairs .nil pass0 (pa_cons (pe_prop (pv 0) T.cl_Machine T.p_Machine_begins (ok_Machine_begins T) (hr.mono (by first | decide | exact Nat.le_refl _)) T.b_Machine_begins .nil pass0 rfl) (pa_cons (pv 2) pa_nil))))
      (pss_cons (ps_set (i := 4) sc_moved_machine.nd rfl (.inl rfl) (pe_call (ok_moved_arcs T) (hr.mono (by first | decide | exact Nat.le_refl _)) (by rfl) T.g_moved_arcs T.F_moved_arcs.kp T.b_moved_arcs .nil pass0 (pa_cons (pe_prop (pv 0) T.cl_Machine T.p_Machine_arcs (ok_Machine_arcs T) (hr.mono (by first | decide | exact Nat.le_refl _)) T.b_Machine_arcs .nil pass0 rfl) (pa_cons (pv 2) pa_nil))))
      (pss_cons (ps_set (i := 5) sc_moved_machine.nd rfl (.inl rfl) (pe_call (ok_moved_pairs T) (hr.mono (by first | decide | exact Nat.le_refl _)) (by rfl) T.g_moved_pairs T.F_moved_pairs.kp T.b_moved_pairs .nil pass0 (pa_cons (pe_prop (pv 0) T.cl_Machine T.p_Machine_ends (ok_Machine_ends T) (hr.mono (by first | decide | exact Nat.le_refl _)) T.b_Machine_ends .nil pass0 rfl) (pa_cons (pv 2) pa_nil))))
      (pss_one (ps_ret (pe_makeK T.M_Machine (ok_Machine___init__ T) (hr.mono (by first | decide | exact Nat.le_refl _)) (by rfl) T.mg_Machine T.kb_Machine_0 passL (pa_cons (pe_prop (pv 0) T.cl_Machine T.p_Machine_read (ok_Machine_read T) (hr.mono (by first | decide | exact Nat.le_refl _)) T.b_Machine_read .nil pass0 rfl) (pa_cons (pe_prop (pv 0) T.cl_Machine T.p_Machine_write (ok_Machine_write T) (hr.mono (by first | decide | exact Nat.le_refl _)) T.b_Machine_write .nil pass0 rfl) (pa_cons (pv 1) pa_nil))) (pk_cons (pv 3) (pk_cons (pv 4) (pk_cons (pv 5) pk_nil))))))))), ?_⟩
    have lbx := M.nb.len
    have lax := M.na.len
    have lex := M.ne.len
    refine ⟨_, rfl, m0, dx, _, rfl, M.ins, m0, dx, _, b, bx, rfl, M.ins, mfs_begins, M.hb, fun c1 nc1 => ?_⟩
    have kc1 := same_new (o := .lst bx) nc1
    have hc1 : (upd H c1 (.lst bx)) c1 = some (.lst bx) := upd_same
    have Nc1 : N ≠ c1 := fun e => by rw [← e, hN] at nc1; cases nc1
    have hNc1 : (upd H c1 (.lst bx)) N = some (.dK ps) := by rw [upd_ne Nc1]; exact hN
    generalize upd H c1 (.lst bx) = G1 at kc1 hc1 hNc1 ⊢
    refine ⟨_, rfl, c1, N, os, bx, bd, ps, rfl, hc1, M.nb.same kc1, by omega, hNc1, gb, fun l1 y1 H1 t1 hN1 nl1 hl1 e1 => ?_⟩
    have s1 : Same H H1 := kc1.trans t1
    have M1 := M.same s1
    refine ⟨_, rfl, m0, dx, _, rfl, M1.ins, m0, dx, _, a, ax, rfl, M1.ins, mfs_arcs, M1.ha, fun c2 nc2 => ?_⟩
    have kc2 := same_new (o := .lst ax) nc2
    have hc2 : (upd H1 c2 (.lst ax)) c2 = some (.lst ax) := upd_same
    have Nc2 : N ≠ c2 := fun e => by rw [← e, hN1] at nc2; cases nc2
    have hNc2 : (upd H1 c2 (.lst ax)) N = some (.dK ps) := by rw [upd_ne Nc2]; exact hN1
    generalize upd H1 c2 (.lst ax) = G2 at kc2 hc2 hNc2 ⊢
    refine ⟨_, rfl, c2, N, os, ax, ad, ps, rfl, hc2, M1.na.same kc2, by omega, hNc2, ga, fun l2 y2 H2 t2 hN2 nl2 hl2 e2 => ?_⟩
    have s2 : Same H H2 := (s1.trans kc2).trans t2
    have M2 := M.same s2
    refine ⟨_, rfl, m0, dx, _, rfl, M2.ins, m0, dx, _, e, ex, rfl, M2.ins, mfs_ends, M2.he, fun c3 nc3 => ?_⟩
    have kc3 := same_new (o := .lst ex) nc3
    have hc3 : (upd H2 c3 (.lst ex)) c3 = some (.lst ex) := upd_same
    have Nc3 : N ≠ c3 := fun e => by rw [← e, hN2] at nc3; cases nc3
    have hNc3 : (upd H2 c3 (.lst ex)) N = some (.dK ps) := by rw [upd_ne Nc3]; exact hN2
    generalize upd H2 c3 (.lst ex) = G3 at kc3 hc3 hNc3 ⊢
    refine ⟨_, rfl, c3, N, os, ex, ed, ps, rfl, hc3, M2.ne.same kc3, by omega, hNc3, ge, fun l3 y3 H3 t3 hN3 nl3 hl3 e3 => ?_⟩
    have s3 : Same H H3 := (s2.trans kc3).trans t3
    have M3 := M.same s3
    refine ⟨_, rfl, m0, dx, _, rfl, M3.ins, m0, dx, _, _, rfl, M3.ins, mfs_read, ?_⟩
    refine ⟨_, rfl, m0, dx, _, rfl, M3.ins, m0, dx, _, _, rfl, M3.ins, mfs_write, ?_⟩
    have u1 : H3 l1 = some (.lst y1) := t3 _ _ (kc3 _ _ (t2 _ _ (kc2 _ _ hl1)))
    have u2 : H3 l2 = some (.lst y2) := t3 _ _ (kc3 _ _ hl2)
    have v1 := (((e1.same kc2).same t2).same kc3).same t3
    have v2 := (e2.same kc3).same t3
    have w1 := e1.len
    have w2 := e2.len
    have w3 := e3.len
    rw [List.length_map] at w1 w2 w3
    refine ⟨_, rfl, _, rfl, _, rfl, _, rfl, rfl, rfl, fun m dy nm nd ne => ?_⟩
    have s4 := same_new (o := .own m) nd
    have nm' : (upd H3 dy (.own m)) m = none := by
      rw [upd_ne (Ne.symm ne)]
      exact nm
    have t4 := s4.trans (same_new (o := .ins T.C_Machine dy []) nm')
    have s5 := s3.trans t4
    refine ⟨m, dy, r, z, n, l1, l2, l3, y1, y2, y3, _, _, _, rfl, upd_same, s5.good good, g.ar, g.az, g.n0, g.n64, .inl (t4 _ _ u1), .inl (t4 _ _ u2), .inl (t4 _ _ hl3), by omega, by omega, by omega, v1.same t4, v2.same t4, e3.same t4, g.gb, g.ga, g.ge, fun H' B g' M' Y => ⟨rfl, ?_⟩⟩
    exact q m H' (s3.trans (But.made nm nd ne B)) (s3.free nm) M' (Y.back s5)

def sp_renumber [Tabl] (cE cL C : Addr) (K : PySem.W.Frag) : Sp := fun vs H Q E => ∃ (m : Addr) (v : V) (r z : Str) (n : Nat) (dx b a e : Addr) (bx ax ex : List V) (bd : List (Int × Str)) (ad : List EnS.Arc) (ed : List (Int × Str)), vs = [.ref m, v] ∧ MA C H m r z n dx b a e bx ax ex bd ad ed ∧ Good H ∧ GoodM r z n bd ad ed ∧ bd.length ≤ 400 ∧ ad.length ≤ 400 ∧ ed.length ≤ 400 ∧
  ((∃ (o : Addr) (os : List Int), v = .ref o ∧ H o = some (.lst (os.map V.int)) ∧ IsOrd os n ∧ ∀ (m' : Addr) (H' : Hp), Same H H' → H m' = none → Mach C H' m' r z n (bd.map (mvP os)) (ad.map (mvA os)) (ed.map (mvP os)) → Young C H H' m' → Q (.ref m') H') ∨
   ∃ f, OrdFlt H v n f ∧ RaisedF H (f.cls cE cL) (f.fs (Str.ofString "order")) E)
theorem ok_renumber (T : Txt K mg base) : FnOk P w K mg base (L2.CX P w) (9 + 1) T.f_renumber T.fd_renumber ["machine", "order"] (sp_renumber T.C_BadEntry T.C_TooLarge T.C_Machine K) := by
  refine T.F_renumber.okX sc_renumber (fun vs H Q E h => ?_) (fun cdv A outer s H vs Q E hr h => ?_)
  · obtain ⟨m, v, r, z, n, dx, b, a, e, bx, ax, ex, bd, ad, ed, rfl, _⟩ := h
    rfl
  · obtain ⟨m, v, r, z, n, dx, b, a, e, bx, ax, ex, bd, ad, ed, rfl, M, good, g, lb, la, le, h⟩ := h
    refine ⟨_, (pss_cons (ps_if (PW.pt (pw_or (pt_not (pt_val (pe_callB call_isi (by rfl) T.z_isinstance (by decide +kernel) (pa_cons (pv 1) (pa_cons (pe_bltn (v := .ty "list") (by rfl) T.z_list (by decide +kernel) rfl) pa_nil))))) (pw_or1 (pt_cmpR op_ne (pe_callB call_len (by rfl) T.z_len PySem.boot_len (pa_cons (pv 1) pa_nil)) (pe_prop (pv 0) T.cl_Machine T.p_Machine_size (ok_Machine_size T) (hr.mono (by first | decide | exact Nat.le_refl _)) T.b_Machine_size .nil pass0 rfl) (nomark _))))) (pss_one (ps_raise rfl (takes_of rfl rfl rfl rfl) (pmk_err2 T.E_BadEntry T.iI_BadEntry T.tI_BadEntry T.no_BadEntry_place T.no_BadEntry_index (ok_init2 (k := 0) T.FI_BadEntry sci_BadEntry rfl) (hr.mono (by first | decide | exact Nat.le_refl _)) T.bI_BadEntry pass0 (pa_cons pe_str (pa_cons pe_non pa_nil))))) pss_nil)
      (pss_cons (ps_set (i := 2) sc_renumber.nd rfl (.inl rfl) pe_dnewK)
      (C8.pss_cut (ps_for (passes_of rfl) rfl (EnT.pi_enumS (by rfl) T.z_enumerate (pa_cons (pv 1) pa_nil)) (pg_tup (by rfl) (pgs_cons (pg_name (i := 3) sc_renumber.nd rfl (.inl rfl)) (pgs_cons (pg_name (i := 4) sc_renumber.nd rfl (.inl rfl)) pgs_nil))) (pss_cons (ps_if (PW.pt (pw_or (pt_not (pt_val (pe_call (ok_in_range T) (hr.mono (by first | decide | exact Nat.le_refl _)) (by rfl) T.g_in_range T.F_in_range.kp T.b_in_range .nil pass0 (pa_cons (pv 4) (pa_cons pe_int (pa_cons (pe_op op_sub (pe_prop (pv 0) T.cl_Machine T.p_Machine_size (ok_Machine_size T) (hr.mono (by first | decide | exact Nat.le_refl _)) T.b_Machine_size .nil pass0 rfl) pe_int) pa_nil)))))) (pw_or1 (pt_cmp (pc_din (hu1 hr.units) (pv 4) (pv 2)) rfl)))) (pss_one (ps_raise rfl (takes_of rfl rfl rfl rfl) (pmk_err2 T.E_BadEntry T.iI_BadEntry T.tI_BadEntry T.no_BadEntry_place T.no_BadEntry_index (ok_init2 (k := 0) T.FI_BadEntry sci_BadEntry rfl) (hr.mono (by first | decide | exact Nat.le_refl _)) T.bI_BadEntry pass0 (pa_cons pe_str (pa_cons (pv 3) pa_nil))))) pss_nil)
      (pss_one (ps_dput (hu1 hr.units) (pv 2) (pv 4) pe_bl rfl))))
      (pss_one (ps_ret (pe_call (ok_moved_machine T) (hr.mono (by first | decide | exact Nat.le_refl _)) (by rfl) T.g_moved_machine T.F_moved_machine.kp T.b_moved_machine .nil pass0 (pa_cons (pv 0) (pa_cons (pe_prop (pv 0) T.cl_Machine T.p_Machine_size (ok_Machine_size T) (hr.mono (by first | decide | exact Nat.le_refl _)) T.b_Machine_size .nil pass0 rfl) (pa_cons (DeT.pe_dictEnum rfl (by rfl) T.z_dict (by rfl) T.z_enumerate (pv 1)) pa_nil))))))))), ?_⟩
    rcases h with ⟨o, os, rfl, ho, od, q⟩ | ⟨f, fl, qe⟩
    · have lo : (os.map V.int).length = n := by rw [List.length_map]; exact od.len
      refine ⟨_, rfl, _, _, _, _, true, rfl, .ty _, .base (.lst ho), kit_ty (by decide +kernel), _, rfl, iteN rfl ?_⟩
      refine ⟨_, rfl, _, _, rfl, .inl ⟨_, .inl (.inl ho), rfl⟩, _, rfl, m, dx, _, rfl, M.ins, m, dx, _, _, rfl, M.ins, mfs_size, rfl, _, rfl, iteN (by rw [lo]; simp) fun d nd => ?_⟩
      have k1 := same_new (o := .dK []) nd
      have hd : (upd H d (.dK [])) d = some (.dK (seenK [])) := upd_same
      generalize upd H d (.dK []) = H1 at k1 hd ⊢
      refine ⟨fun σ' H' => (∃ y y', σ' = [some (.ref m), some (.ref o), some (.ref d), y, y']) ∧ Same H H', ?_, ?_⟩
      · refine ⟨_, rfl, o, os.map V.int, rfl, ?_⟩
        refine for_enumL (.inl (.inl (k1 _ _ ho))) (fun i σ H' => (∃ y y', σ = [some (.ref m), some (.ref o), some (.ref d), y, y']) ∧ Same H H' ∧ H' d = some (.dK (seenK (os.take i)))) ⟨⟨_, _, rfl⟩, k1, hd⟩ (fun i σ H' h => .inl (.inl (h.2.1 _ _ ho))) ?_ fun σ H' h => ⟨h.1, h.2.1⟩
        rintro i x σ H' T' hx ⟨⟨y, y', rfl⟩, s2, hd2⟩ nT
        have k := same_new (o := .tup [.int ((i : Nat) : Int), x]) nT
        have hT : (upd H' T' (.tup [.int ((i : Nat) : Int), x])) T' = some (.tup [.int ((i : Nat) : Int), x]) := upd_same
        have hd3 := k _ _ hd2
        generalize upd H' T' (.tup [.int ((i : Nat) : Int), x]) = H2 at k hT hd3 ⊢
        have sm := s2.trans k
        have M2 := M.same sm
        obtain ⟨j, hj, rfl⟩ : ∃ j, os[i]? = some j ∧ V.int j = x := by
          rw [List.getElem?_map] at hx
          cases e : os[i]? with
          | none => rw [e] at hx; cases hx
          | some j => rw [e] at hx; exact ⟨j, rfl, Option.some.inj hx⟩
        obtain ⟨j0, j1⟩ := od.low j (List.mem_of_getElem? hj)
        have fresh := fresh_at od.nd hj
        refine ⟨T', _, rfl, .inl (.inl hT), rfl, _, _, rfl, _, _, rfl, rfl, ?_⟩
        have inr : inR (.int j) 0 ((n : Int) - 1) = true := by
          show (decide (0 ≤ j) && decide (j ≤ (n : Int) - 1)) = true
          rw [decide_eq_true j0, decide_eq_true j1]
          rfl
        refine ⟨_, rfl, _, rfl, m, dx, _, rfl, M2.ins, m, dx, _, _, rfl, M2.ins, mfs_size, _, _, rfl, rfl, _, _, _, rfl, shal_int, _, rfl, iteN (by rw [inr]; rfl) ?_⟩
        refine ⟨_, rfl, _, rfl, d, _, rfl, DGet.k (k := Sum.inl j) hd3, _, rfl, iteN (by rw [seen_some, decide_eq_false fresh]) ?_⟩
        have len : (seenK (os.take i)).length < sizeLine := by
          unfold seenK
          rw [List.length_map, List.length_take]
          have := od.len
          have := g.n64
          exact Nat.lt_of_le_of_lt (by omega : min i os.length ≤ 1000) (by decide)
        refine ⟨_, rfl, _, rfl, d, _, rfl, DPut.k (k := Sum.inl j) hd3 len, ⟨_, _, rfl⟩, Same.grown (.refl H) nd sm hd3, ?_⟩
        rw [upd_same, seen_put fresh, List.take_add_one, hj]
        rfl
      · rintro σ' H1 ⟨⟨y, y', rfl⟩, s1⟩
        have M1 := M.same s1
        refine ⟨_, rfl, _, rfl, m, dx, _, rfl, M1.ins, m, dx, _, _, rfl, M1.ins, mfs_size, _, rfl, o, os.map V.int, rfl, .inl (.inl (s1 _ _ ho)), fun N nN => ?_⟩
        have k3 := same_new (o := .dK (mergeK [] (DeT.enumD (os.map V.int)))) nN
        have hN : (upd H1 N (.dK (mergeK [] (DeT.enumD (os.map V.int))))) N = some (.dK (mergeK [] (DeT.enumD (os.map V.int)))) := upd_same
        generalize upd H1 N (.dK (mergeK [] (DeT.enumD (os.map V.int)))) = H2 at k3 hN ⊢
        have sm := s1.trans k3
        have get : ∀ i : Int, 0 ≤ i → i ≤ (n : Int) - 1 → ∀ G : Hp, G N = some (.dK (mergeK [] (DeT.enumD (os.map V.int)))) → DGet G N (.int i) (some (.int (mvI os i))) := fun i h0 h1 G hG => by
          obtain ⟨k, rfl⟩ := Int.eq_ofNat_of_zero_le h0
          have lk : k < os.length := by rw [od.len]; omega
          have := DGet.k (k := Sum.inl ((k : Nat) : Int)) hG
          rw [DeT.val_enumD, List.getElem?_map, List.getElem?_eq_getElem lk] at this
          unfold mvI
          rw [Int.toNat_natCast, List.getElem?_eq_getElem lk]
          exact this
        refine ⟨m, N, os, _, r, z, n, dx, b, a, e, bx, ax, ex, bd, ad, ed, rfl, M.same sm, hN, sm.good good, g.moved od, lb, la, le, fun x mx => get _ (g.gb x mx).1 (g.gb x mx).2.1, fun x mx G hG => ?_, fun x mx => get _ (g.ge x mx).1 (g.ge x mx).2.1, fun m' H' s' nm' Mm Y => q m' H' (sm.trans s') (sm.free nm') Mm (Y.back sm)⟩
        have ga := g.ga x mx
        exact ⟨get _ ga.1 ga.2.1 G hG, get _ ga.2.2.2.2.2.2.1 ga.2.2.2.2.2.2.2 G hG⟩
    · cases f with
      | large => exact fl.elim
      | shape =>
        obtain ⟨sv, ne⟩ := fl
        obtain ⟨t, b0, t1, t2, t3⟩ := isi_lst (K := K) sv
        refine ⟨_, rfl, _, _, _, _, b0, rfl, .ty _, t1, t2, _, rfl, ?_⟩
        cases b0 with
        | false => exact iteC rfl (iteC rfl ⟨_, _, rfl, fun d nd => qe d H _ (.refl _) nd rfl⟩)
        | true =>
          obtain ⟨p, xs, rfl, hp⟩ := t3.mp rfl
          obtain ⟨ne, lx⟩ := ne p xs rfl hp
          refine iteN rfl ⟨_, rfl, _, _, rfl, .inl ⟨_, .inl (.inl hp), rfl⟩, _, rfl, m, dx, _, rfl, M.ins, m, dx, _, _, rfl, M.ins, mfs_size, rfl, _, rfl, iteC ?_ ⟨_, _, rfl, fun d nd => qe d H _ (.refl _) nd rfl⟩⟩
          rw [decide_eq_false (fun z => ne (by injection z with z; omega))]
          rfl
      | «at» k0 =>
        obtain ⟨o, xs, ks, x0, rfl, ho, lo, tk, low, nd0, hx0, sx, bad⟩ := fl
        refine ⟨_, rfl, _, _, _, _, true, rfl, .ty _, .base (.lst ho), kit_ty (by decide +kernel), _, rfl, iteN rfl ?_⟩
        refine ⟨_, rfl, _, _, rfl, .inl ⟨_, .inl (.inl ho), rfl⟩, _, rfl, m, dx, _, rfl, M.ins, m, dx, _, _, rfl, M.ins, mfs_size, rfl, _, rfl, iteN (by rw [lo]; simp) fun d nd => ?_⟩
        have k1 := same_new (o := .dK []) nd
        have hd : (upd H d (.dK [])) d = some (.dK (seenK [])) := upd_same
        generalize upd H d (.dK []) = H1 at k1 hd ⊢
        have lk := (List.getElem?_eq_some_iff.mp hx0).1
        have lks : ks.length = k0 := by
          have := congrArg List.length tk
          rw [List.length_take, List.length_map] at this
          omega
        refine ⟨fun _ _ => False, ?_, fun _ _ h => h.elim⟩
        refine ⟨_, rfl, o, xs, rfl, ?_⟩
        refine for_enumL (.inl (.inl (k1 _ _ ho))) (fun i σ H' => (∃ y y', σ = [some (.ref m), some (.ref o), some (.ref d), y, y']) ∧ Same H H' ∧ H' d = some (.dK (seenK (ks.take i))) ∧ i ≤ k0) ⟨⟨_, _, rfl⟩, k1, hd, Nat.zero_le _⟩ (fun i σ H' h => .inl (.inl (h.2.1 _ _ ho))) ?_ fun σ H' h => (by have := h.2.2.2; omega)
        rintro i x σ H' T' hx ⟨⟨y, y', rfl⟩, s2, hd2, ik⟩ nT
        have k := same_new (o := .tup [.int ((i : Nat) : Int), x]) nT
        have hT : (upd H' T' (.tup [.int ((i : Nat) : Int), x])) T' = some (.tup [.int ((i : Nat) : Int), x]) := upd_same
        have hd3 := k _ _ hd2
        generalize upd H' T' (.tup [.int ((i : Nat) : Int), x]) = H2 at k hT hd3 ⊢
        have sm := s2.trans k
        have M2 := M.same sm
        refine ⟨T', _, rfl, .inl (.inl hT), rfl, _, _, rfl, _, _, rfl, rfl, ?_⟩
        by_cases lt : i < k0
        · obtain ⟨j, hj, rfl⟩ : ∃ j, ks[i]? = some j ∧ V.int j = x := by
            have e1 : (xs.take k0)[i]? = some x := by rw [List.getElem?_take, if_pos lt]; exact hx
            rw [tk, List.getElem?_map] at e1
            cases e : ks[i]? with
            | none => rw [e] at e1; cases e1
            | some j => rw [e] at e1; exact ⟨j, rfl, Option.some.inj e1⟩
          obtain ⟨j0, j1⟩ := low j (List.mem_of_getElem? hj)
          have fresh := fresh_at nd0 hj
          have inr : inR (.int j) 0 ((n : Int) - 1) = true := by
            show (decide (0 ≤ j) && decide (j ≤ (n : Int) - 1)) = true
            rw [decide_eq_true j0, decide_eq_true j1]
            rfl
          refine ⟨_, rfl, _, rfl, m, dx, _, rfl, M2.ins, m, dx, _, _, rfl, M2.ins, mfs_size, _, _, rfl, rfl, _, _, _, rfl, shal_int, _, rfl, iteN (by rw [inr]; rfl) ?_⟩
          refine ⟨_, rfl, _, rfl, d, _, rfl, DGet.k (k := Sum.inl j) hd3, _, rfl, iteN (by rw [seen_some, decide_eq_false fresh]) ?_⟩
          have len : (seenK (ks.take i)).length < sizeLine := by
            unfold seenK
            rw [List.length_map, List.length_take]
            have := g.n64
            exact Nat.lt_of_le_of_lt (by omega : min i ks.length ≤ 1000) (by decide)
          refine ⟨_, rfl, _, rfl, d, _, rfl, DPut.k (k := Sum.inl j) hd3 len, ⟨_, _, rfl⟩, Same.grown (.refl H) nd sm hd3, ?_, lt⟩
          rw [upd_same, seen_put fresh, List.take_add_one, hj]
          rfl
        · have e : i = k0 := by omega
          subst e
          rw [hx0] at hx
          cases hx
          have all : ks.take i = ks := List.take_of_length_le (by omega)
          rw [all] at hd3
          refine ⟨_, rfl, _, rfl, m, dx, _, rfl, M2.ins, m, dx, _, _, rfl, M2.ins, mfs_size, _, _, rfl, rfl, _, _, _, rfl, sx.same sm, _, rfl, ?_⟩
          rcases bad with bad | ⟨j, rfl, j0, j1, mj⟩
          · exact iteC (by rw [bad]; rfl) (iteC rfl ⟨_, rfl, _, _, rfl, fun d' nd' => qe d' H2 _ sm nd' rfl⟩)
          · have inr : inR (.int j) 0 ((n : Int) - 1) = true := by
              show (decide (0 ≤ j) && decide (j ≤ (n : Int) - 1)) = true
              rw [decide_eq_true j0, decide_eq_true j1]
              rfl
            exact iteN (by rw [inr]; rfl) ⟨_, rfl, _, rfl, d, _, rfl, DGet.k (k := Sum.inl j) hd3, _, rfl, iteC (by rw [seen_some, decide_eq_true mj]) ⟨_, rfl, _, _, rfl, fun d' nd' => qe d' H2 _ sm nd' rfl⟩⟩

def sp_show_word (_ : PySem.W.Frag) : Sp := fun vs H Q _ => ∃ x : Str, vs = [.str x] ∧ x.length ≤ 1000000 ∧ (x ≠ Str.ofString "" → Q (.str x) H) ∧ (x = Str.ofString "" → Q (.str (Str.ofString "-")) H)
theorem ok_show_word (T : Txt K mg base) : FnOk P w K mg base CX0 (0 + 1) T.f_show_word T.fd_show_word ["word"] (sp_show_word K) := by
  refine T.F_show_word.ok sc_show_word (fun vs H Q E h => ?_) (fun cdv A outer s H vs Q E hr h => ?_)
  · obtain ⟨x, rfl, _⟩ := h
    rfl
  · obtain ⟨x, rfl, lx, q1, q2⟩ := h
    refine ⟨_, (pss_one (ps_ret (pe_ifExp (pt_truth (pv 0) (by intro _; rfl)) (pv 0) pe_str))), ?_⟩
    refine ⟨_, rfl, _, ⟨small_text lx, rfl⟩, ite2 (fun g => ?_) (fun g => ?_)⟩
    · exact ⟨_, rfl, q1 fun e => by rw [e] at g; revert g; decide⟩
    · refine q2 ?_
      have : x.length = 0 := by
        by_cases z : x.length = 0
        · exact z
        · exact absurd (by simpa using z) g
      exact cs_ext (by rw [cs_empty]; exact List.length_eq_zero_iff.mp (by rw [cs_len]; exact this))

theorem lineP_len {w z : Str} {n : Int} {e : Int × Str} (hw : w.length ≤ 6) (h : GoodP z n e) (hn : n ≤ 64) : (lineP w e).length ≤ 1000 := by
  obtain ⟨g0, g1, g2, g3⟩ := h
  have li := shI_len g0 (by omega)
  have sw := shW_len e.2
  have one : (Str.ofString " ").length = 1 := by decide +kernel
  have emp : Str.empty.length = 0 := rfl
  simp only [lineP, length_app]
  omega
theorem lineA_len {r z : Str} {n : Int} {e : EnS.Arc} (h : GoodA r z n e) (hn : n ≤ 64) : (lineA e).length ≤ 1000 := by
  obtain ⟨g0, g1, g2, g3, g4, g5, g6, g7⟩ := h
  have li := shI_len g0 (by omega)
  have lt := shI_len g6 (by omega)
  have sw := shW_len e.2.2.1
  have one : (Str.ofString " ").length = 1 := by decide +kernel
  have four : (Str.ofString "arc ").length = 4 := by decide +kernel
  have emp : Str.empty.length = 0 := rfl
  simp only [lineA, length_app]
  omega
def sp_show_machine [Tabl] (C : Addr) (K : PySem.W.Frag) : Sp := fun vs H Q _ => ∃ (m : Addr) (r z : Str) (n : Int) (dx b a e : Addr) (bx ax ex : List V) (bd : List (Int × Str)) (ad : List EnS.Arc) (ed : List (Int × Str)), vs = [.ref m] ∧ MA C H m r z n dx b a e bx ax ex bd ad ed ∧ GoodM r z n bd ad ed ∧ bd.length ≤ 400 ∧ ad.length ≤ 400 ∧ ed.length ≤ 400 ∧
  ∀ H' : Hp, Same H H' → Q (.str (textM r z n bd ad ed)) H'
theorem ok_show_machine (T : Txt K mg base) : FnOk P w K mg base CX0 (2 + 1) T.f_show_machine T.fd_show_machine ["machine"] (sp_show_machine T.C_Machine K) := by
  refine T.F_show_machine.ok sc_show_machine (fun vs H Q E h => ?_) (fun cdv A outer s H vs Q E hr h => ?_)
  · obtain ⟨m, r, z, n, dx, b, a, e, bx, ax, ex, bd, ad, ed, rfl, _⟩ := h
    rfl
  · obtain ⟨m, r, z, n, dx, b, a, e, bx, ax, ex, bd, ad, ed, rfl, M, g, lb, la, le, q⟩ := h
    refine ⟨_, (pss_cons (ps_set (i := 1) sc_show_machine.nd rfl (.inl rfl) (pe_lst (pa_cons (pe_joined (.cons pe_str (.cons (pe_fmt (pe_prop (pv 0) T.cl_Machine T.p_Machine_read (ok_Machine_read T) (hr.mono (by first | decide | exact Nat.le_refl _)) T.b_Machine_read .nil pass0 rfl)) (.cons pe_str (.cons (pe_fmt (pe_prop (pv 0) T.cl_Machine T.p_Machine_write (ok_Machine_write T) (hr.mono (by first | decide | exact Nat.le_refl _)) T.b_Machine_write .nil pass0 rfl)) (.cons pe_str (.cons (pe_fmt (pe_prop (pv 0) T.cl_Machine T.p_Machine_size (ok_Machine_size T) (hr.mono (by first | decide | exact Nat.le_refl _)) T.b_Machine_size .nil pass0 rfl)) .nil))))))) pa_nil)))
      (C8.pss_cut (ps_for PassesOwn.never rfl (pi_list (pe_prop (pv 0) T.cl_Machine T.p_Machine_begins (ok_Machine_begins T) (hr.mono (by first | decide | exact Nat.le_refl _)) T.b_Machine_begins .nil pass0 rfl)) (pg_tup (by rfl) (pgs_cons (pg_name (i := 2) sc_show_machine.nd rfl (.inl rfl)) (pgs_cons (pg_name (i := 3) sc_show_machine.nd rfl (.inl rfl)) pgs_nil))) (pss_one (ps_expr (pe_bm PySem.F.plainAttrs_list PySem.F.slot_list_append PySem.F.type_list_append mt_append (pv 1) (pa_cons (pe_joined (.cons pe_str (.cons (pe_fmt (pv 2)) (.cons pe_str (.cons (pe_fmt (pe_call (ok_show_word T) (hr.mono (by first | decide | exact Nat.le_refl _)) (by rfl) T.g_show_word T.F_show_word.kp T.b_show_word .nil pass0 (pa_cons (pv 3) pa_nil))) .nil))))) pa_nil)))))
      (C8.pss_cut (ps_for PassesOwn.never rfl (pi_list (pe_prop (pv 0) T.cl_Machine T.p_Machine_arcs (ok_Machine_arcs T) (hr.mono (by first | decide | exact Nat.le_refl _)) T.b_Machine_arcs .nil pass0 rfl)) (pg_tup (by rfl) (pgs_cons (pg_name (i := 4) sc_show_machine.nd rfl (.inl rfl)) (pgs_cons (pg_name (i := 5) sc_show_machine.nd rfl (.inl rfl)) (pgs_cons (pg_name (i := 3) sc_show_machine.nd rfl (.inl rfl)) (pgs_cons (pg_name (i := 6) sc_show_machine.nd rfl (.inl rfl)) pgs_nil))))) (pss_one (ps_expr (pe_bm PySem.F.plainAttrs_list PySem.F.slot_list_append PySem.F.type_list_append mt_append (pv 1) (pa_cons (pe_joined (.cons pe_str (.cons (pe_fmt (pv 4)) (.cons pe_str (.cons (pe_fmt (pv 5)) (.cons pe_str (.cons (pe_fmt (pe_call (ok_show_word T) (hr.mono (by first | decide | exact Nat.le_refl _)) (by rfl) T.g_show_word T.F_show_word.kp T.b_show_word .nil pass0 (pa_cons (pv 3) pa_nil))) (.cons pe_str (.cons (pe_fmt (pv 6)) .nil))))))))) pa_nil)))))
      (C8.pss_cut (ps_for PassesOwn.never rfl (pi_list (pe_prop (pv 0) T.cl_Machine T.p_Machine_ends (ok_Machine_ends T) (hr.mono (by first | decide | exact Nat.le_refl _)) T.b_Machine_ends .nil pass0 rfl)) (pg_tup (by rfl) (pgs_cons (pg_name (i := 2) sc_show_machine.nd rfl (.inl rfl)) (pgs_cons (pg_name (i := 3) sc_show_machine.nd rfl (.inl rfl)) pgs_nil))) (pss_one (ps_expr (pe_bm PySem.F.plainAttrs_list PySem.F.slot_list_append PySem.F.type_list_append mt_append (pv 1) (pa_cons (pe_joined (.cons pe_str (.cons (pe_fmt (pv 2)) (.cons pe_str (.cons (pe_fmt (pe_call (ok_show_word T) (hr.mono (by first | decide | exact Nat.le_refl _)) (by rfl) T.g_show_word T.F_show_word.kp T.b_show_word .nil pass0 (pa_cons (pv 3) pa_nil))) .nil))))) pa_nil)))))
      (pss_one (ps_ret (pe_join pe_str (pv 1)))))))), ?_⟩
    have fit : ∀ y : Str, y.length ≤ 1000 → y.length ≤ sizeLine := fun y h => Nat.le_trans h (by decide)
    have lr := g.ar.len4
    have lz := g.az.len4
    have ln := shI_len g.n0 g.n64
    have e8 : (Str.empty ++ Str.ofString "machine ").length = 8 := by decide +kernel
    have one : (Str.ofString " ").length = 1 := by decide +kernel
    have ap := length_app
    refine ⟨_, rfl, fit _ (by rw [e8]; decide), ?_⟩
    refine ⟨_, rfl, m, dx, _, rfl, M.ins, m, dx, _, _, rfl, M.ins, mfs_read, ?_⟩
    refine .inl ⟨_, rfl, fit _ (by omega), _, rfl, fit _ (by simp only [ap] at e8 ⊢; omega), _, rfl, fit _ (by simp only [ap] at e8 ⊢; omega), ?_⟩
    refine ⟨_, rfl, m, dx, _, rfl, M.ins, m, dx, _, _, rfl, M.ins, mfs_write, ?_⟩
    refine .inl ⟨_, rfl, fit _ (by omega), _, rfl, fit _ (by simp only [ap] at e8 ⊢; omega), _, rfl, fit _ (by simp only [ap] at e8 ⊢; omega), ?_⟩
    refine ⟨_, rfl, m, dx, _, rfl, M.ins, m, dx, _, _, rfl, M.ins, mfs_size, ?_⟩
    refine .inr ⟨_, rfl, log_small g.n0 g.n64, _, rfl, fit _ (by show (Str.empty ++ Str.ofString "machine " ++ r ++ Str.ofString " " ++ z ++ Str.ofString " " ++ shI n).length ≤ 1000; simp only [ap] at e8 ⊢; omega), ?_⟩
    refine ⟨by show 1 ≤ sizeLine; decide, fun W nW => ?_⟩
    have k1 := same_new (o := .lst [V.str (Str.empty ++ Str.ofString "machine " ++ r ++ Str.ofString " " ++ z ++ Str.ofString " " ++ Str.ofString (toString n))]) nW
    have hW1 : (upd H W (.lst [V.str (Str.empty ++ Str.ofString "machine " ++ r ++ Str.ofString " " ++ z ++ Str.ofString " " ++ Str.ofString (toString n))])) W = some (.lst ([lineM r z n].map V.str)) := upd_same
    have s1 := k1
    have M1 := M.same k1
    generalize upd H W (.lst [V.str (Str.empty ++ Str.ofString "machine " ++ r ++ Str.ofString " " ++ z ++ Str.ofString " " ++ Str.ofString (toString n))]) = H1 at s1 M1 hW1 k1 ⊢
    refine ⟨fun σ' H' => (∃ y2 y3 y4 y5 y6 : Option V, σ' = [some (.ref m), some (.ref W), y2, y3, y4, y5, y6]) ∧ Same H H' ∧ H' W = some (.lst (([lineM r z n] ++ bd.map (lineP (Str.ofString "begin "))).map V.str)), ?_, ?_⟩
    · refine ⟨_, rfl, m, dx, _, rfl, M1.ins, m, dx, _, b, bx, rfl, M1.ins, mfs_begins, M1.hb, fun l0 n0 => ?_⟩
      have k2 := same_new (o := .lst bx) n0
      have hl0 : (upd H1 l0 (.lst bx)) l0 = some (.lst bx) := upd_same
      have lW : l0 ≠ W := fun e => by rw [e, hW1] at n0; cases n0
      have hW0 := k2 _ _ hW1
      generalize upd H1 l0 (.lst bx) = G at k2 hl0 hW0 ⊢
      have sG := s1.trans k2
      have enG := M1.nb.same k2
      refine ⟨l0, rfl, ⟨_, .inl (.inl hl0)⟩, for_list (K := K) (a := l0) (xs := bx) (fun j σ H' => (∃ y2 y3 y4 y5 y6 : Option V, σ = [some (.ref m), some (.ref W), y2, y3, y4, y5, y6]) ∧ ButL [W] G H' ∧ H' W = some (.lst (([lineM r z n] ++ (bd.take j).map (lineP (Str.ofString "begin "))).map V.str))) ⟨⟨_, _, _, _, _, rfl⟩, .refl _, by simpa using hW0⟩ (fun j σ H' _ h => .inl (.inl (h.2.1.row hl0 (by simpa using lW)))) ?_ ?_⟩
      · rintro j v σ H' hv ⟨⟨y2, y3, y4, y5, y6, rfl⟩, bt, hW'⟩
        obtain ⟨e, t, he, rfl, ht⟩ := enG.get hv
        have ht' := bt.tup ht
        have ge := g.gb e (List.mem_of_getElem? he)
        have jx := (List.getElem?_eq_some_iff.mp he).1
        have tk : bd.take (j + 1) = bd.take j ++ [e] := by rw [List.take_add_one, he]; rfl
        have n64 := g.n64
        have sw := shW_len e.2
        have wl : (Str.ofString "begin ").length = 6 := by decide +kernel
        have emp : Str.empty.length = 0 := rfl
        obtain ⟨g0, g1, g2, g3⟩ := ge
        have li := shI_len g0 (by omega)
        refine ⟨t, _, rfl, .inl (.inl ht'), rfl, _, _, rfl, _, _, rfl, rfl, ?_⟩
        refine ⟨_, rfl, .inl ⟨rfl, _, .inl (.inl hW')⟩, ?_⟩
        refine ⟨_, rfl, fit _ (by simp only [ap]; omega), _, rfl, .inr ⟨_, rfl, log_small g0 (by omega), _, rfl, fit _ (by show (Str.empty ++ Str.ofString "begin " ++ shI e.1).length ≤ 1000; simp only [ap]; omega), _, rfl, fit _ (by show (Str.empty ++ Str.ofString "begin " ++ shI e.1 ++ Str.ofString " ").length ≤ 1000; simp only [ap]; omega), ?_⟩⟩
        refine ⟨_, rfl, e.2, rfl, by omega, fun ne => ?_, fun eq => ?_⟩
        · have hw : e.2 = shW e.2 := (if_neg ne).symm
          have ly : (e.2).length ≤ e.2.length + 1 := by rw [← hw] at sw; exact sw
          refine .inl ⟨_, rfl, fit _ (by omega), _, rfl, fit _ (by show (Str.empty ++ Str.ofString "begin " ++ shI e.1 ++ Str.ofString " " ++ e.2).length ≤ 1000; simp only [ap]; omega), W, _, _, rfl, rfl, hW', ?_, ⟨_, _, _, _, _, rfl⟩, bt.trans (.put (List.mem_singleton.mpr rfl) hW'), ?_⟩
          · simp only [List.length_map, List.length_append, List.length_take, List.length_cons, List.length_nil]
            exact Nat.lt_of_lt_of_le (by omega : _ < 2000) (by decide)
          · rw [upd_same, tk]
            simp only [List.map_append, List.map_cons, List.map_nil, List.append_assoc, lineP, ← hw]
            rfl
        · have hw : Str.ofString "-" = shW e.2 := (if_pos eq).symm
          have ly : (Str.ofString "-").length ≤ e.2.length + 1 := by rw [← hw] at sw; exact sw
          refine .inl ⟨_, rfl, fit _ (by omega), _, rfl, fit _ (by show (Str.empty ++ Str.ofString "begin " ++ shI e.1 ++ Str.ofString " " ++ Str.ofString "-").length ≤ 1000; simp only [ap]; omega), W, _, _, rfl, rfl, hW', ?_, ⟨_, _, _, _, _, rfl⟩, bt.trans (.put (List.mem_singleton.mpr rfl) hW'), ?_⟩
          · simp only [List.length_map, List.length_append, List.length_take, List.length_cons, List.length_nil]
            exact Nat.lt_of_lt_of_le (by omega : _ < 2000) (by decide)
          · rw [upd_same, tk]
            simp only [List.map_append, List.map_cons, List.map_nil, List.append_assoc, lineP, ← hw]
            rfl
      · rintro σ H' ⟨⟨y2, y3, y4, y5, y6, rfl⟩, bt, hW'⟩
        have lx := enG.len
        exact ⟨⟨_, _, _, _, _, rfl⟩, bt.young sG fun b m => (List.mem_singleton.mp m).symm ▸ nW, by rw [hW', List.take_of_length_le (by omega)]⟩
    rintro σ' H2 ⟨⟨y2, y3, y4, y5, y6, rfl⟩, s2, hW2⟩
    have M2 := M.same s2
    refine ⟨fun σ' H' => (∃ y2 y3 y4 y5 y6 : Option V, σ' = [some (.ref m), some (.ref W), y2, y3, y4, y5, y6]) ∧ Same H H' ∧ H' W = some (.lst ((([lineM r z n] ++ bd.map (lineP (Str.ofString "begin "))) ++ ad.map lineA).map V.str)), ?_, ?_⟩
    · refine ⟨_, rfl, m, dx, _, rfl, M2.ins, m, dx, _, a, ax, rfl, M2.ins, mfs_arcs, M2.ha, fun l0 n0 => ?_⟩
      have k2 := same_new (o := .lst ax) n0
      have hl0 : (upd H2 l0 (.lst ax)) l0 = some (.lst ax) := upd_same
      have lW : l0 ≠ W := fun e => by rw [e, hW2] at n0; cases n0
      have hW0 := k2 _ _ hW2
      generalize upd H2 l0 (.lst ax) = G at k2 hl0 hW0 ⊢
      have sG := s2.trans k2
      have enG := M2.na.same k2
      refine ⟨l0, rfl, ⟨_, .inl (.inl hl0)⟩, for_list (K := K) (a := l0) (xs := ax) (fun j σ H' => (∃ y2 y3 y4 y5 y6 : Option V, σ = [some (.ref m), some (.ref W), y2, y3, y4, y5, y6]) ∧ ButL [W] G H' ∧ H' W = some (.lst ((([lineM r z n] ++ bd.map (lineP (Str.ofString "begin "))) ++ (ad.take j).map lineA).map V.str))) ⟨⟨_, _, _, _, _, rfl⟩, .refl _, by simpa using hW0⟩ (fun j σ H' _ h => .inl (.inl (h.2.1.row hl0 (by simpa using lW)))) ?_ ?_⟩
      · rintro j v σ H' hv ⟨⟨y2, y3, y4, y5, y6, rfl⟩, bt, hW'⟩
        obtain ⟨e, t, he, rfl, ht⟩ := enG.get hv
        have ht' := bt.tup ht
        have ge := g.ga e (List.mem_of_getElem? he)
        have jx := (List.getElem?_eq_some_iff.mp he).1
        have tk : ad.take (j + 1) = ad.take j ++ [e] := by rw [List.take_add_one, he]; rfl
        have n64 := g.n64
        have sw := shW_len e.2.2.1
        have wl : (Str.ofString "arc ").length = 4 := by decide +kernel
        have emp : Str.empty.length = 0 := rfl
        obtain ⟨g0, g1, g2, g3, g4, g5, g6, g7⟩ := ge
        have li := shI_len g0 (by omega)
        have lt := shI_len g6 (by omega)
        refine ⟨t, _, rfl, .inl (.inl ht'), rfl, _, _, rfl, _, _, rfl, _, _, rfl, _, _, rfl, rfl, ?_⟩
        refine ⟨_, rfl, .inl ⟨rfl, _, .inl (.inl hW')⟩, ?_⟩
        refine ⟨_, rfl, fit _ (by simp only [ap]; omega), _, rfl, .inr ⟨_, rfl, log_small g0 (by omega), _, rfl, fit _ (by show (Str.empty ++ Str.ofString "arc " ++ shI e.1).length ≤ 1000; simp only [ap]; omega), _, rfl, fit _ (by show (Str.empty ++ Str.ofString "arc " ++ shI e.1 ++ Str.ofString " ").length ≤ 1000; simp only [ap]; omega), _, rfl, .inl ⟨_, rfl, fit _ (by omega), _, rfl, fit _ (by show (Str.empty ++ Str.ofString "arc " ++ shI e.1 ++ Str.ofString " " ++ e.2.1).length ≤ 1000; simp only [ap]; omega), _, rfl, fit _ (by show (Str.empty ++ Str.ofString "arc " ++ shI e.1 ++ Str.ofString " " ++ e.2.1 ++ Str.ofString " ").length ≤ 1000; simp only [ap]; omega), ?_⟩⟩⟩
        refine ⟨_, rfl, e.2.2.1, rfl, by omega, fun ne => ?_, fun eq => ?_⟩
        · have hw : e.2.2.1 = shW e.2.2.1 := (if_neg ne).symm
          have ly : (e.2.2.1).length ≤ e.2.2.1.length + 1 := by rw [← hw] at sw; exact sw
          refine .inl ⟨_, rfl, fit _ (by omega), _, rfl, fit _ (by show (Str.empty ++ Str.ofString "arc " ++ shI e.1 ++ Str.ofString " " ++ e.2.1 ++ Str.ofString " " ++ e.2.2.1).length ≤ 1000; simp only [ap]; omega), _, rfl, fit _ (by show (Str.empty ++ Str.ofString "arc " ++ shI e.1 ++ Str.ofString " " ++ e.2.1 ++ Str.ofString " " ++ e.2.2.1 ++ Str.ofString " ").length ≤ 1000; simp only [ap]; omega), _, rfl, .inr ⟨_, rfl, log_small g6 (by omega), _, rfl, fit _ (by show (Str.empty ++ Str.ofString "arc " ++ shI e.1 ++ Str.ofString " " ++ e.2.1 ++ Str.ofString " " ++ e.2.2.1 ++ Str.ofString " " ++ shI e.2.2.2).length ≤ 1000; simp only [ap]; omega), W, _, _, rfl, rfl, hW', ?_, ⟨_, _, _, _, _, rfl⟩, bt.trans (.put (List.mem_singleton.mpr rfl) hW'), ?_⟩⟩
          · simp only [List.length_map, List.length_append, List.length_take, List.length_cons, List.length_nil]
            exact Nat.lt_of_lt_of_le (by omega : _ < 2000) (by decide)
          · rw [upd_same, tk]
            simp only [List.map_append, List.map_cons, List.map_nil, List.append_assoc, lineA, lineP, ← hw]
            rfl
        · have hw : Str.ofString "-" = shW e.2.2.1 := (if_pos eq).symm
          have ly : (Str.ofString "-").length ≤ e.2.2.1.length + 1 := by rw [← hw] at sw; exact sw
          refine .inl ⟨_, rfl, fit _ (by omega), _, rfl, fit _ (by show (Str.empty ++ Str.ofString "arc " ++ shI e.1 ++ Str.ofString " " ++ e.2.1 ++ Str.ofString " " ++ Str.ofString "-").length ≤ 1000; simp only [ap]; omega), _, rfl, fit _ (by show (Str.empty ++ Str.ofString "arc " ++ shI e.1 ++ Str.ofString " " ++ e.2.1 ++ Str.ofString " " ++ Str.ofString "-" ++ Str.ofString " ").length ≤ 1000; simp only [ap]; omega), _, rfl, .inr ⟨_, rfl, log_small g6 (by omega), _, rfl, fit _ (by show (Str.empty ++ Str.ofString "arc " ++ shI e.1 ++ Str.ofString " " ++ e.2.1 ++ Str.ofString " " ++ Str.ofString "-" ++ Str.ofString " " ++ shI e.2.2.2).length ≤ 1000; simp only [ap]; omega), W, _, _, rfl, rfl, hW', ?_, ⟨_, _, _, _, _, rfl⟩, bt.trans (.put (List.mem_singleton.mpr rfl) hW'), ?_⟩⟩
          · simp only [List.length_map, List.length_append, List.length_take, List.length_cons, List.length_nil]
            exact Nat.lt_of_lt_of_le (by omega : _ < 2000) (by decide)
          · rw [upd_same, tk]
            simp only [List.map_append, List.map_cons, List.map_nil, List.append_assoc, lineA, lineP, ← hw]
            rfl
      · rintro σ H' ⟨⟨y2, y3, y4, y5, y6, rfl⟩, bt, hW'⟩
        have lx := enG.len
        exact ⟨⟨_, _, _, _, _, rfl⟩, bt.young sG fun b m => (List.mem_singleton.mp m).symm ▸ nW, by rw [hW', List.take_of_length_le (by omega)]⟩
    rintro σ' H3 ⟨⟨y2, y3, y4, y5, y6, rfl⟩, s3, hW3⟩
    have M3 := M.same s3
    refine ⟨fun σ' H' => (∃ y2 y3 y4 y5 y6 : Option V, σ' = [some (.ref m), some (.ref W), y2, y3, y4, y5, y6]) ∧ Same H H' ∧ H' W = some (.lst (((([lineM r z n] ++ bd.map (lineP (Str.ofString "begin "))) ++ ad.map lineA) ++ ed.map (lineP (Str.ofString "end "))).map V.str)), ?_, ?_⟩
    · refine ⟨_, rfl, m, dx, _, rfl, M3.ins, m, dx, _, e, ex, rfl, M3.ins, mfs_ends, M3.he, fun l0 n0 => ?_⟩
      have k2 := same_new (o := .lst ex) n0
      have hl0 : (upd H3 l0 (.lst ex)) l0 = some (.lst ex) := upd_same
      have lW : l0 ≠ W := fun e => by rw [e, hW3] at n0; cases n0
      have hW0 := k2 _ _ hW3
      generalize upd H3 l0 (.lst ex) = G at k2 hl0 hW0 ⊢
      have sG := s3.trans k2
      have enG := M3.ne.same k2
      refine ⟨l0, rfl, ⟨_, .inl (.inl hl0)⟩, for_list (K := K) (a := l0) (xs := ex) (fun j σ H' => (∃ y2 y3 y4 y5 y6 : Option V, σ = [some (.ref m), some (.ref W), y2, y3, y4, y5, y6]) ∧ ButL [W] G H' ∧ H' W = some (.lst (((([lineM r z n] ++ bd.map (lineP (Str.ofString "begin "))) ++ ad.map lineA) ++ (ed.take j).map (lineP (Str.ofString "end "))).map V.str))) ⟨⟨_, _, _, _, _, rfl⟩, .refl _, by simpa using hW0⟩ (fun j σ H' _ h => .inl (.inl (h.2.1.row hl0 (by simpa using lW)))) ?_ ?_⟩
      · rintro j v σ H' hv ⟨⟨y2, y3, y4, y5, y6, rfl⟩, bt, hW'⟩
        obtain ⟨e, t, he, rfl, ht⟩ := enG.get hv
        have ht' := bt.tup ht
        have ge := g.ge e (List.mem_of_getElem? he)
        have jx := (List.getElem?_eq_some_iff.mp he).1
        have tk : ed.take (j + 1) = ed.take j ++ [e] := by rw [List.take_add_one, he]; rfl
        have n64 := g.n64
        have sw := shW_len e.2
        have wl : (Str.ofString "end ").length = 4 := by decide +kernel
        have emp : Str.empty.length = 0 := rfl
        obtain ⟨g0, g1, g2, g3⟩ := ge
        have li := shI_len g0 (by omega)
        refine ⟨t, _, rfl, .inl (.inl ht'), rfl, _, _, rfl, _, _, rfl, rfl, ?_⟩
        refine ⟨_, rfl, .inl ⟨rfl, _, .inl (.inl hW')⟩, ?_⟩
        refine ⟨_, rfl, fit _ (by simp only [ap]; omega), _, rfl, .inr ⟨_, rfl, log_small g0 (by omega), _, rfl, fit _ (by show (Str.empty ++ Str.ofString "end " ++ shI e.1).length ≤ 1000; simp only [ap]; omega), _, rfl, fit _ (by show (Str.empty ++ Str.ofString "end " ++ shI e.1 ++ Str.ofString " ").length ≤ 1000; simp only [ap]; omega), ?_⟩⟩
        refine ⟨_, rfl, e.2, rfl, by omega, fun ne => ?_, fun eq => ?_⟩
        · have hw : e.2 = shW e.2 := (if_neg ne).symm
          have ly : (e.2).length ≤ e.2.length + 1 := by rw [← hw] at sw; exact sw
          refine .inl ⟨_, rfl, fit _ (by omega), _, rfl, fit _ (by show (Str.empty ++ Str.ofString "end " ++ shI e.1 ++ Str.ofString " " ++ e.2).length ≤ 1000; simp only [ap]; omega), W, _, _, rfl, rfl, hW', ?_, ⟨_, _, _, _, _, rfl⟩, bt.trans (.put (List.mem_singleton.mpr rfl) hW'), ?_⟩
          · simp only [List.length_map, List.length_append, List.length_take, List.length_cons, List.length_nil]
            exact Nat.lt_of_lt_of_le (by omega : _ < 2000) (by decide)
          · rw [upd_same, tk]
            simp only [List.map_append, List.map_cons, List.map_nil, List.append_assoc, lineP, ← hw]
            rfl
        · have hw : Str.ofString "-" = shW e.2 := (if_pos eq).symm
          have ly : (Str.ofString "-").length ≤ e.2.length + 1 := by rw [← hw] at sw; exact sw
          refine .inl ⟨_, rfl, fit _ (by omega), _, rfl, fit _ (by show (Str.empty ++ Str.ofString "end " ++ shI e.1 ++ Str.ofString " " ++ Str.ofString "-").length ≤ 1000; simp only [ap]; omega), W, _, _, rfl, rfl, hW', ?_, ⟨_, _, _, _, _, rfl⟩, bt.trans (.put (List.mem_singleton.mpr rfl) hW'), ?_⟩
          · simp only [List.length_map, List.length_append, List.length_take, List.length_cons, List.length_nil]
            exact Nat.lt_of_lt_of_le (by omega : _ < 2000) (by decide)
          · rw [upd_same, tk]
            simp only [List.map_append, List.map_cons, List.map_nil, List.append_assoc, lineP, ← hw]
            rfl
      · rintro σ H' ⟨⟨y2, y3, y4, y5, y6, rfl⟩, bt, hW'⟩
        have lx := enG.len
        exact ⟨⟨_, _, _, _, _, rfl⟩, bt.young sG fun b m => (List.mem_singleton.mp m).symm ▸ nW, by rw [hW', List.take_of_length_le (by omega)]⟩
    rintro σ' H4 ⟨⟨y2, y3, y4, y5, y6, rfl⟩, s4, hW4⟩
    have M4 := M.same s4
    refine ⟨⟨_, rfl⟩, _, rfl, Str.ofString "\n", W, _, rfl, rfl, .inl (.inl (.inl hW4)), ?_, q _ s4⟩
    have len : (([lineM r z n] ++ bd.map (lineP (Str.ofString "begin ")) ++ ad.map lineA) ++ ed.map (lineP (Str.ofString "end "))).length ≤ 1300 := by
      simp only [List.length_map, List.length_append, List.length_cons, List.length_nil]
      omega
    have sum := sum_1000 (([lineM r z n] ++ bd.map (lineP (Str.ofString "begin ")) ++ ad.map lineA) ++ ed.map (lineP (Str.ofString "end "))) fun y my => by
      rcases List.mem_append.mp my with my | my
      · rcases List.mem_append.mp my with my | my
        · rcases List.mem_append.mp my with my | my
          · rw [List.mem_singleton.mp my]
            show (Str.empty ++ Str.ofString "machine " ++ r ++ Str.ofString " " ++ z ++ Str.ofString " " ++ shI n).length ≤ 1000
            simp only [ap] at e8 ⊢
            omega
          · obtain ⟨x, mx, rfl⟩ := List.mem_map.mp my
            exact lineP_len (by decide +kernel) (g.gb x mx) g.n64
        · obtain ⟨x, mx, rfl⟩ := List.mem_map.mp my
          exact lineA_len (g.ga x mx) g.n64
      · obtain ⟨x, mx, rfl⟩ := List.mem_map.mp my
        exact lineP_len (by decide +kernel) (g.ge x mx) g.n64
    have nl : (Str.ofString "\n").length = 1 := by decide +kernel
    rw [nl]
    generalize (([lineM r z n] ++ bd.map (lineP (Str.ofString "begin ")) ++ ad.map lineA) ++ ed.map (lineP (Str.ofString "end "))) = ys at len sum ⊢
    omega

theorem ints_samed {H : Hp} {k : Nat} {p q : Addr} {ns : List Int} (hp : H p = some (.lst (ns.map V.int))) (hq : H q = some (.lst (ns.map V.int))) (l : ns.length ≤ 1000) : SameD (k + 1) H (.ref p) (.ref q) :=
  .inr ⟨p, q, _, _, rfl, rfl, .inr ⟨hp, hq⟩, rfl, by rw [List.length_map]; omega, fun i x y ex ey => by
    rw [ex] at ey
    cases ey
    obtain ⟨n, _, rfl⟩ := List.mem_map.mp (List.mem_of_getElem? ex)
    cases k <;> exact .inl ⟨rfl, rfl⟩⟩
def sp_moves_all [Tabl] (C : Addr) (K : PySem.W.Frag) : Sp := fun vs H Q _ => ∃ (m p o : Addr) (r z : Str) (n : Nat) (os : List Int) (dx b c e : Addr) (bx ax ex : List V) (bd : List (Int × Str)) (ad : List EnS.Arc) (ed : List (Int × Str)) (pb pa pe : Addr) (qx qy qz : List V) (be : List (Int × Str)) (ae : List EnS.Arc) (ee : List (Int × Str)),
  vs = [.ref m, .ref p, .ref o] ∧ MA C H m r z n dx b c e bx ax ex bd ad ed ∧ Good H ∧ GoodM r z n be ae ee ∧ Srt EnS.PLt bd be ∧ Srt EnS.ALt ad ae ∧ Srt EnS.PLt ed ee ∧ H p = some (.tup [.str r, .str z, .int (n : Int), .ref pb, .ref pa, .ref pe]) ∧ H pb = some (.lst qx) ∧ H pa = some (.lst qy) ∧ H pe = some (.lst qz) ∧
  EntL pimg H qx be ∧ EntL aimg H qy ae ∧ EntL pimg H qz ee ∧ be.length ≤ 400 ∧ ae.length ≤ 400 ∧ ee.length ≤ 400 ∧ H o = some (.lst (os.map V.int)) ∧ IsOrd os n ∧ ∀ H' : Hp, Same H H' → Q (.bl true) H'
theorem ok_moves_all (T : Txt K mg base) : FnOk P w K mg base CX0 (13 + 1) T.f_moves_all T.fd_moves_all ["machine", "parts", "order"] (sp_moves_all T.C_Machine K) := by
  refine T.F_moves_all.ok sc_moves_all (fun vs H Q E h => ?_) (fun cdv A outer s H vs Q E hr h => ?_)
  · obtain ⟨m, p, o, r, z, n, os, dx, b, c, e, bx, ax, ex, bd, ad, ed, pb, pa, pe, qx, qy, qz, be, ae, ee, rfl, _⟩ := h
    rfl
  · obtain ⟨m, p, o, r, z, n, os, dx, b, c, e, bx, ax, ex, bd, ad, ed, pb, pa, pe, qx, qy, qz, be, ae, ee, rfl, M, good, g, sb, sa, se, hp, hpb, hpa, hpe, eb, ea, eE, lb, la, le, ho, od, q⟩ := h
    refine ⟨_, (pss_cons (ps_set (i := 3) sc_moves_all.nd rfl (.inl rfl) (pe_callTy call_list_of (by rfl) T.z_list (by decide +kernel) (pa_cons (pv 2) pa_nil)))
      (pss_cons (ps_set (i := 4) sc_moves_all.nd rfl (.inl rfl) (pe_call (ok_renumber T) (hr.mono (by first | decide | exact Nat.le_refl _)) (by rfl) T.g_renumber T.F_renumber.kp T.b_renumber .nil passL (pa_cons (pv 0) (pa_cons (pv 3) pa_nil))))
      (pss_cons (ps_if (pt_not (pt_val (pe_call (ok_same T) (hr.mono (by first | decide | exact Nat.le_refl _)) (by rfl) T.g_same T.F_same.kp T.b_same .nil pass0 (pa_cons (pv 3) (pa_cons (pv 2) pa_nil))))) (pss_one (ps_ret pe_bl)) pss_nil)
      (pss_cons (ps_expr (pe_bm0 PySem.F.plainAttrs_list PySem.F.slot_list_reverse PySem.F.type_list_reverse mt_reverse (pv 3)))
      (pss_cons (ps_expr (pe_bm PySem.F.plainAttrs_list PySem.F.slot_list_append PySem.F.type_list_append mt_append (pv 3) (pa_cons pe_int pa_nil)))
      (pss_cons (ps_set (i := 5) sc_moves_all.nd rfl (.inl rfl) (pe_call (ok_tidy T) (hr.mono (by first | decide | exact Nat.le_refl _)) (by rfl) T.g_tidy T.F_tidy.kp T.b_tidy .nil pass0 (pa_cons (pe_call (ok_renamed T) (hr.mono (by first | decide | exact Nat.le_refl _)) (by rfl) T.g_renamed T.F_renamed.kp T.b_renamed .nil pass0 (pa_cons (pv 1) (pa_cons (pv 2) pa_nil))) pa_nil)))
      (pss_cons (ps_if (pt_not (pt_val (pe_call (ok_same T) (hr.mono (by first | decide | exact Nat.le_refl _)) (by rfl) T.g_same T.F_same.kp T.b_same .nil pass0 (pa_cons (pe_call (ok_parts_of T) (hr.mono (by first | decide | exact Nat.le_refl _)) (by rfl) T.g_parts_of T.F_parts_of.kp T.b_parts_of .nil pass0 (pa_cons (pv 4) pa_nil)) (pa_cons (pv 5) pa_nil))))) (pss_one (ps_ret pe_bl)) pss_nil)
      (pss_cons (ps_if (pt_not (pt_val (pe_call (ok_same T) (hr.mono (by first | decide | exact Nat.le_refl _)) (by rfl) T.g_same T.F_same.kp T.b_same .nil pass0 (pa_cons (pe_call (ok_show_machine T) (hr.mono (by first | decide | exact Nat.le_refl _)) (by rfl) T.g_show_machine T.F_show_machine.kp T.b_show_machine .nil pass0 (pa_cons (pv 4) pa_nil)) (pa_cons (pe_call (ok_joined T) (hr.mono (by first | decide | exact Nat.le_refl _)) (by rfl) T.g_joined T.F_joined.kp T.b_joined .nil pass0 (pa_cons (pe_call (ok_machine_rows T) (hr.mono (by first | decide | exact Nat.le_refl _)) (by rfl) T.g_machine_rows T.F_machine_rows.kp T.b_machine_rows .nil pass0 (pa_cons (pv 5) pa_nil)) pa_nil)) pa_nil))))) (pss_one (ps_ret pe_bl)) pss_nil)
      (pss_cons (ps_set (i := 6) sc_moves_all.nd rfl (.inl rfl) (pe_call (ok_renumber T) (hr.mono (by first | decide | exact Nat.le_refl _)) (by rfl) T.g_renumber T.F_renumber.kp T.b_renumber .nil passL (pa_cons (pv 4) (pa_cons (pe_lc (own := [("k", 7)]) (g := gName 7) rfl sc_moves_all.nd (pi_range1 (by rfl) T.z_range (pa_cons (pe_ix ix_seq (pv 1) pe_int (fun _ _ => rfl)) pa_nil)) (blkOk_by (N := ["machine", "parts", "order", "given", "moved", "due", "back", "k"]) (sc := defScope s_moves_all) (by decide +kernel)) (fun _ _ _ _ _ => pg_name (i := 7) sc_moves_all.nd rfl (Or.inl rfl)) (fun _ _ _ _ _ => pts_nil) (fun _ _ _ _ _ => (pe_bmK K rfl PySem.F.plainAttrs_list PySem.F.slot_list_index PySem.F.type_list_index (mt_indexI K rfl (by exact units65 hr)) (pv 2) (pa_cons (pv 7) pa_nil)))) pa_nil))))
      (pss_cons (ps_if (pt_not (pt_val (pe_call (ok_same T) (hr.mono (by first | decide | exact Nat.le_refl _)) (by rfl) T.g_same T.F_same.kp T.b_same .nil pass0 (pa_cons (pe_call (ok_show_machine T) (hr.mono (by first | decide | exact Nat.le_refl _)) (by rfl) T.g_show_machine T.F_show_machine.kp T.b_show_machine .nil pass0 (pa_cons (pv 6) pa_nil)) (pa_cons (pe_call (ok_joined T) (hr.mono (by first | decide | exact Nat.le_refl _)) (by rfl) T.g_joined T.F_joined.kp T.b_joined .nil pass0 (pa_cons (pe_call (ok_machine_rows T) (hr.mono (by first | decide | exact Nat.le_refl _)) (by rfl) T.g_machine_rows T.F_machine_rows.kp T.b_machine_rows .nil pass0 (pa_cons (pv 1) pa_nil)) pa_nil)) pa_nil))))) (pss_one (ps_ret pe_bl)) pss_nil)
      (pss_one (ps_ret (pe_call (ok_same T) (hr.mono (by first | decide | exact Nat.le_refl _)) (by rfl) T.g_same T.F_same.kp T.b_same .nil pass0 (pa_cons (pe_call (ok_parts_of T) (hr.mono (by first | decide | exact Nat.le_refl _)) (by rfl) T.g_parts_of T.F_parts_of.kp T.b_parts_of .nil pass0 (pa_cons (pv 0) pa_nil)) (pa_cons (pe_call (ok_tidy T) (hr.mono (by first | decide | exact Nat.le_refl _)) (by rfl) T.g_tidy T.F_tidy.kp T.b_tidy .nil pass0 (pa_cons (pv 1) pa_nil)) pa_nil))))))))))))))), ?_⟩
    have n64 := g.n64
    have sbl := sb.l4
    have sal := sa.l4
    have sel := se.l4
    have lo := od.len
    have gd : GoodM r z n bd ad ed := g.told sb sa se
    refine ⟨_, rfl, o, _, rfl, .inl (.inl (.inl ho)), fun gv ng => ?_⟩
    have k1 := same_new (o := .lst (os.map V.int)) ng
    have hg : (upd H gv (.lst (os.map V.int))) gv = some (.lst (os.map V.int)) := upd_same
    generalize upd H gv (.lst (os.map V.int)) = H1 at k1 hg ⊢
    refine ⟨_, rfl, _, rfl, m, _, r, z, n, dx, b, c, e, bx, ax, ex, bd, ad, ed, rfl, M.same k1, k1.good good, gd, sbl, sal, sel, .inl ⟨gv, os, rfl, hg, od, fun m2 H2 s2 nm2 Mm Y => ?_⟩⟩
    obtain ⟨dx2, b2, c2, e2, bx2, ax2, ex2, bd2, ad2, ed2, M2, sb2, sa2, se2, _, _, _, y1, y2, y3⟩ := Mm.places Y
    have s12 := k1.trans s2
    have hg2 := s2 _ _ hg
    refine ⟨_, rfl, _, rfl, _, _, rfl, ints_samed hg2 (s12 _ _ ho) (by omega), _, rfl, iteF ?_⟩
    refine ⟨_, rfl, .inl ⟨rfl, _, .inl (.inl hg2)⟩, gv, _, rfl, rfl, hg2, ?_⟩
    have hg3 : (upd H2 gv (.lst (os.map V.int).reverse)) gv = some (.lst (os.map V.int).reverse) := upd_same
    refine ⟨_, rfl, .inl ⟨rfl, _, .inl (.inl hg3)⟩, gv, _, _, rfl, rfl, hg3, by rw [List.length_reverse, List.length_map]; exact Nat.lt_of_le_of_lt (by omega : _ ≤ 1000) (by decide), ?_⟩
    have kg := (But.put (a := gv) (o := .lst (os.map V.int).reverse) hg2).trans (But.put (a := gv) (o := .lst ((os.map V.int).reverse ++ [.int 0])) hg3)
    have s3 := (Same.refl H).grown (o := .lst ((os.map V.int).reverse ++ [.int 0])) ng ((Same.refl H).grown (o := .lst (os.map V.int).reverse) ng s12 hg2) hg3
    have M3 := M2.butx kg hg2 (fun z => by rw [z, hg] at y1; cases y1) (fun z => by rw [z, hg] at y2; cases y2) (fun z => by rw [z, hg] at y3; cases y3)
    generalize upd (upd H2 gv (.lst (os.map V.int).reverse)) gv (.lst ((os.map V.int).reverse ++ [.int 0])) = H3 at s3 M3 ⊢
    have gm := g.moved od
    have gdm := gd.moved od
    have gd2 := gdm.told sb2 sa2 se2
    have sb2l := sb2.l4
    have sa2l := sa2.l4
    have se2l := se2.l4
    have lqx := eb.len
    have lqy := ea.len
    have lqz := eE.len
    refine ⟨_, rfl, _, rfl, p, o, os, r, z, n, be, ae, ee, pb, pa, pe, qx, qy, qz, rfl, .inr (.inl (.inl (s3 _ _ hp))), s3 _ _ ho, s3 _ _ hpb, s3 _ _ hpa, s3 _ _ hpe, by omega, by omega, by omega, eb.same s3, ea.same s3, eE.same s3, fun x mx => ?_, fun x mx => ?_, fun x mx => ?_, fun t b' a' e' bx' ax' ex' H4 s4 nt ht hb' ha' he' eb' ea' ee' => ?_⟩
    · have := g.gb x mx
      exact ⟨this.1, by have := this.2.1; omega⟩
    · have := g.ga x mx
      exact ⟨this.1, by have := this.2.1; omega, this.2.2.2.2.2.2.1, by have := this.2.2.2.2.2.2.2; omega⟩
    · have := g.ge x mx
      exact ⟨this.1, by have := this.2.1; omega⟩
    have l1 := eb'.len
    have l2 := ea'.len
    have l3 := ee'.len
    rw [List.length_map] at l1 l2 l3
    refine ⟨t, r, z, n, _, _, _, b', a', e', bx', ax', ex', rfl, .inr (.inl (.inl ht)), g.ar, g.az, hb', ha', he', by omega, by omega, by omega, eb', ea', ee', fun x mx => ⟨(gm.gb x mx).2.2.1, by have := (gm.gb x mx).2.2.2; omega⟩, fun x mx => ⟨(gm.ga x mx).2.2.2.1, (gm.ga x mx).2.2.2.2.1, by have := (gm.ga x mx).2.2.2.2.2.1; omega⟩, fun x mx => ⟨(gm.ge x mx).2.2.1, by have := (gm.ge x mx).2.2.2; omega⟩, fun t3 b3 a3 e3 bx3 ax3 ex3 bd3 ad3 ed3 H5 s5 nt3 Td => ?_⟩
    obtain rfl : bd3 = bd2 := pw_unique plt_asym Td.pb sb2.pw fun y => (Td.mb y).trans ((mem_map_inj sb.mem y).symm.trans (sb2.mem y).symm)
    obtain rfl : ad3 = ad2 := pw_unique alt_asym Td.pa sa2.pw fun y => (Td.ma y).trans ((mem_map_inj sa.mem y).symm.trans (sa2.mem y).symm)
    obtain rfl : ed3 = ed2 := pw_unique plt_asym Td.pe se2.pw fun y => (Td.me y).trans ((mem_map_inj se.mem y).symm.trans (se2.mem y).symm)
    have M5 := M3.same (s4.trans s5)
    refine ⟨_, rfl, m2, r, z, n, dx2, b2, c2, e2, bx2, ax2, ex2, bd3, ad3, ed3, rfl, M5, fun t4 l1 l2 l3 H6 s6 _ _ ht4 hl1 hl2 hl3 => ?_⟩
    refine ⟨_, rfl, _, _, rfl, parts_samed (k := 6) ht4 (s6 _ _ Td.tup) hl1 hl2 hl3 (s6 _ _ Td.hb) (s6 _ _ Td.ha) (s6 _ _ Td.he) (M5.nb.same s6) (M5.na.same s6) (M5.ne.same s6) (Td.nb.same s6) (Td.na.same s6) (Td.ne.same s6) (by omega) (by omega) (by omega), _, rfl, iteF ?_⟩
    have M6 := M5.same s6
    have lb3 := Td.nb.len
    have la3 := Td.na.len
    have le3 := Td.ne.len
    refine ⟨_, rfl, m2, r, z, n, dx2, b2, c2, e2, bx2, ax2, ex2, bd3, ad3, ed3, rfl, M6, gd2, sb2l, sa2l, se2l, fun H7 s7 => ?_⟩
    have s57 := s6.trans s7
    refine ⟨_, rfl, t3, r, z, n, bd3, ad3, ed3, b3, a3, e3, bx3, ax3, ex3, rfl, .inr (.inl (.inl (s57 _ _ Td.tup))), gd2, s57 _ _ Td.hb, s57 _ _ Td.ha, s57 _ _ Td.he, by omega, by omega, by omega, Td.nb.same s57, Td.na.same s57, Td.ne.same s57, fun bd5 ad5 ed5 l5 xs5 H8 s8 _ q1 q2 q3 hl5 tr => ?_⟩
    obtain rfl := Srt.eq plt_asym sb2 q1
    obtain rfl := Srt.eq alt_asym sa2 q2
    obtain rfl := Srt.eq plt_asym se2 q3
    have sml := rowsM_small gd2 sb2l sa2l se2l
    refine ⟨l5, xs5, _, rfl, hl5, tr, sml.1, sml.2, fun H9 s9 => ?_⟩
    refine ⟨_, _, rfl, .inl ⟨congrArg V.str (textM_eq r z n bd5 ad5 ed5), rfl⟩, _, rfl, iteF ?_⟩
    have s39 := ((s4.trans s5).trans s57).trans (s8.trans s9)
    have s09 := s3.trans s39
    have M9 := M3.same s39
    have hp9 := s09 _ _ hp
    have ho9 := s09 _ _ ho
    refine ⟨_, rfl, _, rfl, ix_any (.inr (.inl (.inl hp9))) rfl ⟨(n : Int), rfl, by omega, by omega, fun D nD => ?_⟩⟩
    have linv : (invO os n).length = n := od.inv.len
    refine lc_range (lo := 0) (n := (n : Int).toNat) (fun i H' => Same H9 H' ∧ H' D = some (.lst (((invO os n).take i).map V.int))) ⟨same_new nD, upd_same⟩ ?_ ?_
    · rintro i H' hi ⟨sg, hDg⟩
      have hi' : i < n := hi
      refine ⟨rfl, _, rfl, .inl ⟨rfl, _, .inl (.inl (sg _ _ ho9))⟩, _, rfl, o, _, os, os.idxOf ((i : Nat) : Int), rfl, rfl, .inl (.inl (sg _ _ ho9)), by rw [Int.zero_add]; exact od.at hi', fun mm lt => by rw [Int.zero_add]; exact od.first hi' lt, _, hDg, ?_, (Same.refl H9).grown nD sg hDg, ?_⟩
      · rw [List.length_map, List.length_take]
        exact Nat.lt_of_le_of_lt (by omega : _ ≤ 1000) (by decide)
      · have e1 : (invO os n)[i]? = some ((os.idxOf ((i : Nat) : Int) : Nat) : Int) := by
          unfold invO
          rw [List.getElem?_map, List.getElem?_range hi']
          rfl
        rw [upd_same, List.take_add_one, e1, List.map_append]
        rfl
    rintro H10 ⟨s10, hD⟩
    rw [show (n : Int).toNat = n from Int.toNat_natCast n, List.take_of_length_le (by omega)] at hD
    refine ⟨m2, _, r, z, n, dx2, b2, c2, e2, bx2, ax2, ex2, bd5, ad5, ed5, rfl, M9.same s10, (s09.trans s10).good good, gd2, sb2l, sa2l, se2l, .inl ⟨D, invO os n, rfl, hD, od.inv, fun m4 H11 s11 nm4 Mm4 Y4 => ?_⟩⟩
    obtain ⟨dx4, b4, c4, e4, bx4, ax4, ex4, bd4, ad4, ed4, M4, sb4, sa4, se4, _⟩ := Mm4.places Y4
    have backP : ∀ ds : List (Int × Str), (∀ e ∈ ds, GoodP z n e) → (ds.map (mvP os)).map (mvP (invO os n)) = ds := fun ds h => by
      rw [List.map_map]
      refine (List.map_congr_left fun x mx => ?_).trans (List.map_id ds)
      exact Prod.ext (od.back (h x mx).1 (h x mx).2.1) rfl
    have backA : ∀ ds : List EnS.Arc, (∀ e ∈ ds, GoodA r z n e) → (ds.map (mvA os)).map (mvA (invO os n)) = ds := fun ds h => by
      rw [List.map_map]
      refine (List.map_congr_left fun x mx => ?_).trans (List.map_id ds)
      have := h x mx
      exact Prod.ext (od.back this.1 this.2.1) (Prod.ext rfl (Prod.ext rfl (od.back this.2.2.2.2.2.2.1 this.2.2.2.2.2.2.2)))
    obtain rfl : bd4 = bd := pw_unique plt_asym sb4.pw sb.pw fun y => (sb4.mem y).trans ((mem_map_inj sb2.mem y).trans (by rw [backP bd gd.gb]))
    obtain rfl : ad4 = ad := pw_unique alt_asym sa4.pw sa.pw fun y => (sa4.mem y).trans ((mem_map_inj sa2.mem y).trans (by rw [backA ad gd.ga]))
    obtain rfl : ed4 = ed := pw_unique plt_asym se4.pw se.pw fun y => (se4.mem y).trans ((mem_map_inj se2.mem y).trans (by rw [backP ed gd.ge]))
    have s0b := (s09.trans s10).trans s11
    refine ⟨_, rfl, m4, r, z, n, dx4, b4, c4, e4, bx4, ax4, ex4, bd4, ad4, ed4, rfl, M4, gd, sbl, sal, sel, fun H12 s12' => ?_⟩
    have s0c := s0b.trans s12'
    refine ⟨_, rfl, p, r, z, n, be, ae, ee, pb, pa, pe, qx, qy, qz, rfl, .inr (.inl (.inl (s0c _ _ hp))), g, s0c _ _ hpb, s0c _ _ hpa, s0c _ _ hpe, by omega, by omega, by omega, eb.same s0c, ea.same s0c, eE.same s0c, fun bd6 ad6 ed6 l6 xs6 H13 s13 _ p1 p2 p3 hl6 tr6 => ?_⟩
    obtain rfl := Srt.two plt_asym sb p1
    obtain rfl := Srt.two alt_asym sa p2
    obtain rfl := Srt.two plt_asym se p3
    have sml6 := rowsM_small gd sbl sal sel
    refine ⟨l6, xs6, _, rfl, hl6, tr6, sml6.1, sml6.2, fun H14 s14 => ?_⟩
    refine ⟨_, _, rfl, .inl ⟨congrArg V.str (textM_eq r z n bd6 ad6 ed6), rfl⟩, _, rfl, iteF ?_⟩
    have s0e := (s0c.trans s13).trans s14
    refine ⟨_, rfl, m, r, z, n, dx, b, c, e, bx, ax, ex, bd6, ad6, ed6, rfl, M.same s0e, fun t7 l7 l8 l9 H15 s15 _ _ ht7 hl7 hl8 hl9 => ?_⟩
    have s0f := s0e.trans s15
    refine ⟨_, rfl, p, r, z, n, be, ae, ee, pb, pa, pe, qx, qy, qz, rfl, .inr (.inl (.inl (s0f _ _ hp))), g.ar, g.az, s0f _ _ hpb, s0f _ _ hpa, s0f _ _ hpe, by omega, by omega, by omega, eb.same s0f, ea.same s0f, eE.same s0f, fun x mx => ⟨(g.gb x mx).2.2.1, by have := (g.gb x mx).2.2.2; omega⟩, fun x mx => ⟨(g.ga x mx).2.2.2.1, (g.ga x mx).2.2.2.2.1, by have := (g.ga x mx).2.2.2.2.2.1; omega⟩, fun x mx => ⟨(g.ge x mx).2.2.1, by have := (g.ge x mx).2.2.2; omega⟩, fun t8 b8 a8 e8 bx8 ax8 ex8 bd8 ad8 ed8 H16 s16 _ Te => ?_⟩
    obtain rfl : bd8 = bd6 := pw_unique plt_asym Te.pb sb.pw fun y => (Te.mb y).trans (sb.mem y).symm
    obtain rfl : ad8 = ad6 := pw_unique alt_asym Te.pa sa.pw fun y => (Te.ma y).trans (sa.mem y).symm
    obtain rfl : ed8 = ed6 := pw_unique plt_asym Te.pe se.pw fun y => (Te.me y).trans (se.mem y).symm
    have Mz := M.same (s0f.trans s16)
    exact ⟨_, _, rfl, parts_samed (k := 6) (s16 _ _ ht7) Te.tup (s16 _ _ hl7) (s16 _ _ hl8) (s16 _ _ hl9) Te.hb Te.ha Te.he Mz.nb Mz.na Mz.ne Te.nb Te.na Te.ne (by omega) (by omega) (by omega), q _ (s0f.trans s16)⟩

def sp_not_number [Tabl] (_ : PySem.W.Frag) : Sp := fun vs H Q _ => ∃ (a ca : Addr) (hi : Int), vs = [.ref a, .int 0, .int hi] ∧ Sto H a ca ∧ -1 ≤ hi ∧ hi ≤ 5000 ∧ ∀ (v : V) (H' : Hp), inR v 0 hi = false → (∀ c, H c ≠ none → Deep c 1 H' v) → But a H H' → Sto H' a ca → Q v H'
theorem ok_not_number (T : Txt K mg base) : FnOk P w K mg base CX0 (2 + 1) T.f_not_number T.fd_not_number ["store", "low", "high"] (sp_not_number K) := by
  refine T.F_not_number.ok sc_not_number (fun vs H Q E h => ?_) (fun cdv A outer s H vs Q E hr h => ?_)
  · obtain ⟨a, ca, hi, rfl, _⟩ := h
    rfl
  · obtain ⟨a, ca, hi, rfl, S, h0, h64, q⟩ := h
    refine ⟨_, (pss_cons (ps_set (i := 3) sc_not_number.nd rfl (.inl rfl) (pe_call (ok_take T) (hr.mono (by first | decide | exact Nat.le_refl _)) (by rfl) T.g_take T.F_take.kp T.b_take .nil pass0 (pa_cons (pv 0) (pa_cons pe_int pa_nil))))
      (pss_cons (ps_if (pt_cmpR op_lt (pv 3) pe_int (nomark _)) (pss_one (ps_ret (pe_ix ix_list (pe_lst (pa_cons (pe_op op_sub (pv 1) pe_int) (pa_cons (pe_op op_add (pv 2) pe_int) (pa_cons pe_bl (pa_cons pe_bl (pa_cons pe_non (pa_cons (pe_callTy call_str_int (by rfl) T.z_str (by decide +kernel) (pa_cons (pv 1) pa_nil)) (pa_cons (pe_lst (pa_cons (pv 1) pa_nil)) (pa_cons (pe_tup (pa_cons (pv 2) pa_nil)) pa_nil))))))))) (pv 3) (fun _ _ => rfl)))) pss_nil)
      (pss_cons (ps_if (pt_cmpR op_eq (pv 3) pe_int (nomark _)) (pss_one (ps_ret (pe_op op_sub (pe_op op_sub (pv 1) pe_int) (pe_call (ok_take T) (hr.mono (by first | decide | exact Nat.le_refl _)) (by rfl) T.g_take T.F_take.kp T.b_take .nil pass0 (pa_cons (pv 0) (pa_cons pe_int pa_nil)))))) pss_nil)
      (pss_cons (ps_if (pt_cmpR op_eq (pv 3) pe_int (nomark _)) (pss_one (ps_ret (pe_op op_add (pe_op op_add (pv 2) pe_int) (pe_call (ok_take T) (hr.mono (by first | decide | exact Nat.le_refl _)) (by rfl) T.g_take T.F_take.kp T.b_take .nil pass0 (pa_cons (pv 0) (pa_cons pe_int pa_nil)))))) pss_nil)
      (pss_cons (ps_if (pt_cmpR op_eq (pv 3) pe_int (nomark _)) (pss_one (ps_ret (pe_op op_sub (pe_op op_sub (pe_op op_pow pe_int pe_int) pe_int) (pe_call (ok_take T) (hr.mono (by first | decide | exact Nat.le_refl _)) (by rfl) T.g_take T.F_take.kp T.b_take .nil pass0 (pa_cons (pv 0) (pa_cons pe_int pa_nil)))))) pss_nil)
      (pss_one (ps_ret (pe_op op_add (pe_op op_sub pe_int (pe_op op_pow pe_int pe_int)) (pe_call (ok_take T) (hr.mono (by first | decide | exact Nat.le_refl _)) (by rfl) T.g_take T.F_take.kp T.b_take .nil pass0 (pa_cons (pv 0) (pa_cons pe_int pa_nil))))))))))), ?_⟩
    have out : ∀ i : Int, (i < 0 ∨ hi < i) → inR (.int i) 0 hi = false := fun i h => by
      show (decide (0 ≤ i) && decide (i ≤ hi)) = false
      rcases h with h | h
      · rw [decide_eq_false (by omega : ¬ 0 ≤ i)]; rfl
      · rw [decide_eq_false (by omega : ¬ i ≤ hi), Bool.and_false]
    have sml : ∀ i : Int, -10000 ≤ i → i ≤ 10000 → i.natAbs < 2 ^ 13000 := fun i h1 h2 => Nat.lt_of_lt_of_le (by omega : i.natAbs < 10001) (Nat.le_trans (by decide : 10001 ≤ 2 ^ 200) (Nat.pow_le_pow_right (by decide) (by decide)))
    refine ⟨_, rfl, a, ca, 12, rfl, S, by decide, fun d H1 d0 d1 B1 S1 => ?_⟩
    have d12 : d < 12 := by omega
    have tens : (10 : Int) ^ (60 : Int).toNat = ((10 ^ 60 : Nat) : Int) := by decide
    have bnd : ∀ i : Int, i.natAbs < 2 ^ 200 → i.natAbs < 2 ^ 13000 := fun i h => Nat.lt_of_lt_of_le h (Nat.pow_le_pow_right (by decide) (by decide))
    refine ⟨_, rfl, _, _, rfl, rfl, _, rfl, ite2 (fun g => ?_) (fun g => ?_)⟩
    · obtain ⟨j, rfl⟩ := Int.eq_ofNat_of_zero_le d0
      have j8 : j < 8 := by
        have := of_decide_eq_true g
        omega
      refine ⟨_, rfl, _, _, rfl, rfl, ?_⟩
      refine ⟨_, rfl, _, _, rfl, rfl, ?_⟩
      refine ⟨_, rfl, 0, rfl, by decide, ?_⟩
      refine ⟨_, rfl, by show 1 ≤ sizeLine; decide, fun p1 n1 => ⟨_, rfl, by show 1 ≤ sizeLine; decide, fun p2 n2 => ⟨by show 8 ≤ sizeLine; decide, fun p3 n3 => ?_⟩⟩⟩
      have S2 := S1.new (o := .lst [.int 0]) n1
      have S3 := S2.new (o := .tup [.int hi]) n2
      have k3 := same_new (o := .lst [.int (0 - 1), .int (hi + 1), .bl true, .bl false, .non, .str (Str.ofString (toString (0 : Int))), .ref p1, .ref p2]) n3
      have k2 := (same_new (o := .tup [.int hi]) n2).trans k3
      have k1 := (same_new (o := .lst [.int 0]) n1).trans k2
      have e1 := k2 _ _ (upd_same (o := .lst [.int 0]))
      have e2 := k3 _ _ (upd_same (o := .tup [.int hi]))
      have all : ∀ Hf : Hp, Hf p1 = some (.lst [.int 0]) → Hf p2 = some (.tup [.int hi]) →
          ∀ x ∈ [V.int (0 - 1), .int (hi + 1), .bl true, .bl false, .non, .str (Str.ofString (toString (0 : Int))), .ref p1, .ref p2], inR x 0 hi = false ∧ ∀ c, p1 ≠ c → p2 ≠ c → Deep c 1 Hf x := by
        intro Hf e1 e2
        refine List.forall_mem_cons.mpr ⟨⟨out _ (.inl (by decide)), fun _ _ _ => deep_int (sml _ (by decide) (by decide))⟩, List.forall_mem_cons.mpr ⟨⟨out _ (.inr (by omega)), fun _ _ _ => deep_int (sml _ (by omega) (by omega))⟩, List.forall_mem_cons.mpr ⟨⟨rfl, fun _ _ _ => deep_bl⟩, List.forall_mem_cons.mpr ⟨⟨rfl, fun _ _ _ => deep_bl⟩, List.forall_mem_cons.mpr ⟨⟨rfl, fun _ _ _ => deep_non⟩, ?_⟩⟩⟩⟩⟩
        refine List.forall_mem_cons.mpr ⟨⟨rfl, fun _ _ _ => deep_str (by decide +kernel)⟩, List.forall_mem_cons.mpr ⟨⟨rfl, fun c c1 c2 => deep_one (.inl e1) c1 fun _ => deep_int (sml _ (by decide) (by decide))⟩, List.forall_mem_cons.mpr ⟨⟨rfl, fun c c1 c2 => deep_one (.inr e2) c2 fun _ => deep_int (sml _ (by omega) (by omega))⟩, fun x m => absurd m List.not_mem_nil⟩⟩⟩
      have hj : j < [V.int (0 - 1), .int (hi + 1), .bl true, .bl false, .non, .str (Str.ofString (toString (0 : Int))), .ref p1, .ref p2].length := j8
      refine ⟨_, rfl, _, _, _, _, rfl, rfl, .inl (.inl upd_same), atI_nat (List.getElem?_eq_getElem hj), ?_⟩
      obtain ⟨o1, o2⟩ := all _ e1 e2 _ (List.getElem_mem hj)
      have f1 : ∀ c, H c ≠ none → p1 ≠ c := fun c hc e => by subst e; exact hc (B1.free n1 (S1.ne n1).1)
      have f2 : ∀ c, H c ≠ none → p2 ≠ c := fun c hc e => by
        subst e
        exact hc ((B1.trans (But.new n1)).free n2 (S2.ne n2).1)
      exact q _ _ o1 (fun c hc => o2 c (f1 c hc) (f2 c hc)) (B1.trans (But.same k1)) (S3.new n3)
    · have h60 : (10 : Int) ^ (60 : Int).toNat = ((10 ^ 60 : Nat) : Int) := by decide
      have b60 : (10000 : Int) < ((10 ^ 60 : Nat) : Int) := by decide
      have c60 : 10 ^ 60 < 2 ^ 200 := by decide
      refine ⟨_, rfl, rfl, _, rfl, ite2 (fun g2 => ?_) (fun g2 => ?_)⟩
      · refine ⟨_, rfl, _, _, rfl, rfl, _, rfl, a, ca, 1000, rfl, S1, by decide, fun e H2 e0 e1 B2 S2 => ?_⟩
        exact ⟨_, _, rfl, rfl, q _ _ (out _ (.inl (by omega))) (fun _ _ => deep_int (sml _ (by omega) (by omega))) (B1.trans B2) S2⟩
      refine ⟨_, rfl, rfl, _, rfl, ite2 (fun g3 => ?_) (fun g3 => ?_)⟩
      · refine ⟨_, rfl, _, _, rfl, rfl, _, rfl, a, ca, 1000, rfl, S1, by decide, fun e H2 e0 e1 B2 S2 => ?_⟩
        exact ⟨_, _, rfl, rfl, q _ _ (out _ (.inr (by omega))) (fun _ _ => deep_int (sml _ (by omega) (by omega))) (B1.trans B2) S2⟩
      refine ⟨_, rfl, rfl, _, rfl, ite2 (fun g4 => ?_) (fun g4 => ?_)⟩
      · refine ⟨_, _, rfl, rfl, ⟨by decide, by decide, by decide⟩, _, _, rfl, rfl, _, rfl, a, ca, 1000, rfl, S1, by decide, fun e H2 e0 e1 B2 S2 => ?_⟩
        rw [h60]
        exact ⟨_, _, rfl, rfl, q _ _ (out _ (.inr (by omega))) (fun _ _ => deep_int (bnd _ (by omega))) (B1.trans B2) S2⟩
      · refine ⟨_, _, rfl, rfl, ⟨by decide, by decide, by decide⟩, _, _, rfl, rfl, _, rfl, a, ca, 1000, rfl, S1, by decide, fun e H2 e0 e1 B2 S2 => ?_⟩
        rw [h60]
        exact ⟨_, _, rfl, rfl, q _ _ (out _ (.inl (by omega))) (fun _ _ => deep_int (bnd _ (by omega))) (B1.trans B2) S2⟩

def sp_bad_order [Tabl] (K : PySem.W.Frag) : Sp := fun vs H Q _ => ∃ (a ca : Addr) (n : Nat), vs = [.ref a, .int (n : Int)] ∧ Sto H a ca ∧ n ≤ 64 ∧
  ∀ (v : V) (t d : Addr) (f : Flt) (H' : Hp), But a H H' → Sto H' a ca → H' t = some (.tup [v, .ref d]) → H' d = some (.tup (dueO f)) → OrdFlt H' v n f → (∀ c, H c ≠ none → Deep c 2 H' v) → Q (.ref t) H'
theorem ord_deep {c l : Addr} {H : Hp} {n : Nat} {ps : List Nat} (ne : l ≠ c) (h : H l = some (.lst (natV ps)) ∨ H l = some (.tup (natV ps))) (l5 : ps.length ≤ 1000) (b : ∀ i ∈ ps, i ≤ 5000) : Deep c (n + 1) H (.ref l) :=
  .inr ⟨l, _, rfl, ne, h, by unfold natV; rw [List.length_map]; omega, fun x m => by
    obtain ⟨i, mi, rfl⟩ := List.mem_map.mp m
    have := b i mi
    exact deep_int (Nat.lt_of_le_of_lt (by omega : _ ≤ 5000) (Nat.lt_of_lt_of_le (by decide : 5000 < 2 ^ 200) (Nat.pow_le_pow_right (by decide) (by decide))))⟩
theorem ok_bad_order (T : Txt K mg base) : FnOk P w K mg base CX0 (3 + 1) T.f_bad_order T.fd_bad_order ["store", "size"] (sp_bad_order K) := by
  refine T.F_bad_order.ok sc_bad_order (fun vs H Q E h => ?_) (fun cdv A outer s H vs Q E hr h => ?_)
  · obtain ⟨a, ca, n, rfl, _⟩ := h
    rfl
  · obtain ⟨a, ca, n, rfl, S, hn, q⟩ := h
    refine ⟨_, (pss_cons (ps_set (i := 2) sc_bad_order.nd rfl (.inl rfl) (pe_call (ok_order T) (hr.mono (by first | decide | exact Nat.le_refl _)) (by rfl) T.g_order T.F_order.kp T.b_order .nil pass0 (pa_cons (pv 0) (pa_cons (pv 1) pa_nil))))
      (pss_cons (ps_set (i := 3) sc_bad_order.nd rfl (.inl rfl) (pe_call (ok_take T) (hr.mono (by first | decide | exact Nat.le_refl _)) (by rfl) T.g_take T.F_take.kp T.b_take .nil pass0 (pa_cons (pv 0) (pa_cons pe_int pa_nil))))
      (pss_cons (ps_if (PW.pt (pw_or (pt_cmpR op_lt (pv 3) pe_int (nomark _)) (pw_or1 (pt_cmpR op_lt (pv 1) pe_int (nomark _))))) (pss_one (ps_ret (pe_tup (pa_cons (pe_call (ok_pick T) (hr.mono (by first | decide | exact Nat.le_refl _)) (by rfl) T.g_pick T.F_pick.kp T.b_pick .nil pass0 (pa_cons (pv 0) (pa_cons (pe_lst (pa_cons (pe_callTy call_tuple_of (by rfl) T.z_tuple (by decide +kernel) (pa_cons (pv 2) pa_nil)) (pa_cons (pe_op op_cat (pv 2) (pe_lst (pa_cons (pv 1) pa_nil))) (pa_cons (pe_op op_cat (pv 2) (pe_lst (pa_cons pe_int pa_nil))) (pa_cons pe_non (pa_cons pe_int (pa_cons pe_str pa_nil))))))) pa_nil))) (pa_cons (pe_tup (pa_cons pe_str (pa_cons pe_str (pa_cons pe_non pa_nil)))) pa_nil))))) pss_nil)
      (pss_cons (ps_if (pt_cmpR op_eq (pv 3) pe_int (nomark _)) (pss_one (ps_ret (pe_tup (pa_cons (pe_slice sl_list (pv 2) (po_some pe_int) po_none) (pa_cons (pe_tup (pa_cons pe_str (pa_cons pe_str (pa_cons pe_non pa_nil)))) pa_nil))))) pss_nil)
      (pss_cons (ps_set (i := 4) sc_bad_order.nd rfl (.inl rfl) (pe_call (ok_between T) (hr.mono (by first | decide | exact Nat.le_refl _)) (by rfl) T.g_between T.F_between.kp T.b_between .nil pass0 (pa_cons (pv 0) (pa_cons pe_int (pa_cons (pe_op op_sub (pv 1) pe_int) pa_nil)))))
      (pss_cons (ps_set (i := 5) sc_bad_order.nd rfl (.inl rfl) (pe_call (ok_not_number T) (hr.mono (by first | decide | exact Nat.le_refl _)) (by rfl) T.g_not_number T.F_not_number.kp T.b_not_number .nil pass0 (pa_cons (pv 0) (pa_cons pe_int (pa_cons (pe_op op_sub (pv 1) pe_int) pa_nil)))))
      (C8.pss_cut (ps_if (PW.pt (pw_and (pt_cmpR op_eq (pv 3) pe_int (nomark _)) (pw_and1 (pt_cmpR op_gt (pv 4) pe_int (nomark _))))) (pss_one (ps_set (i := 5) sc_bad_order.nd rfl (.inl rfl) (pe_ix ix_list (pv 2) (pe_call (ok_take T) (hr.mono (by first | decide | exact Nat.le_refl _)) (by rfl) T.g_take T.F_take.kp T.b_take .nil pass0 (pa_cons (pv 0) (pa_cons (pv 4) pa_nil))) (fun _ _ => rfl)))) pss_nil)
      (pss_cons (ps_asg (pv 5) (pg_sub (pv 2) (pv 4) set_list))
      (C8.pss_cut (ps_if (PW.pt (pw_and (pt_cmpR op_lt (pv 4) (pe_op op_sub (pv 1) pe_int) (nomark _)) (pw_and1 (pt_cmpR op_eq (pe_call (ok_take T) (hr.mono (by first | decide | exact Nat.le_refl _)) (by rfl) T.g_take T.F_take.kp T.b_take .nil pass0 (pa_cons (pv 0) (pa_cons pe_int pa_nil))) pe_int (nomark _))))) (pss_one (ps_asg pe_non (pg_sub (pv 2) (pe_op op_sub (pv 1) pe_int) set_list))) pss_nil)
      (pss_one (ps_ret (pe_tup (pa_cons (pv 2) (pa_cons (pe_tup (pa_cons pe_str (pa_cons pe_str (pa_cons (pv 4) pa_nil)))) pa_nil)))))))))))))), ?_⟩
    refine ⟨_, rfl, _, rfl, a, ca, n, rfl, S, by omega, fun ps l H1 pm B1 S1 nl la lc hl => ?_⟩
    refine ⟨_, rfl, a, ca, 7, rfl, S1, by decide, fun dr H2 d0 d1 B2 S2 => ?_⟩
    have hl2 := B2 _ _ la hl
    have B := B1.trans B2
    have lp : ps.length = n := by rw [pm.length_eq, List.length_range]
    have lps : (natV ps).length = n := by unfold natV; rw [List.length_map]; exact lp
    have low : ∀ i ∈ ps, i < n := fun i m => List.mem_range.mp (pm.mem_iff.mp m)
    dsimp only [gName]
    refine un_seq (un_if (or_pure (decide (dr < 3)) (decide ((n : Int) < 1)) (fun Q' q => ⟨_, rfl, _, _, rfl, rfl, _, rfl, q⟩) (fun Q' q => ⟨_, rfl, _, _, rfl, rfl, _, rfl, q⟩) ?_))
    by_cases g0 : dr < 3 ∨ (n : Int) < 1
    · refine iteC (by simpa using g0) ?_
      refine ⟨_, rfl, _, rfl, l, _, rfl, .inl ⟨.inl (.inl hl2), fun tp ntp => ?_⟩⟩
      have k1 := same_new (o := .tup (natV ps)) ntp
      have htp : (upd H2 tp (.tup (natV ps))) tp = some (.tup (natV ps)) := upd_same
      have S3 := S2.new (o := .tup (natV ps)) ntp
      generalize upd H2 tp (.tup (natV ps)) = G1 at k1 htp S3 ⊢
      refine ⟨_, rfl, _, rfl, by show 1 ≤ sizeLine; decide, fun u1 nu1 => ?_⟩
      have k2 := same_new (o := .lst [.int (n : Int)]) nu1
      have hu1 : (upd G1 u1 (.lst [.int (n : Int)])) u1 = some (.lst [.int (n : Int)]) := upd_same
      have S4 := S3.new (o := .lst [.int (n : Int)]) nu1
      generalize upd G1 u1 (.lst [.int (n : Int)]) = G2 at k2 hu1 S4 ⊢
      refine ⟨_, _, _, _, rfl, rfl, (k1.trans k2) _ _ hl2, hu1, by rw [lps]; exact Nat.le_trans (by show _ ≤ 1001; show n + 1 ≤ 1001; omega) (by decide), fun c1 nc1 => ?_⟩
      have e1 : natV ps ++ [.int (n : Int)] = natV (ps ++ [n]) := by unfold natV; rw [List.map_append]; rfl
      rw [e1]
      have k3 := same_new (o := .lst (natV (ps ++ [n]))) nc1
      have hc1 : (upd G2 c1 (.lst (natV (ps ++ [n])))) c1 = some (.lst (natV (ps ++ [n]))) := upd_same
      have S5 := S4.new (o := .lst (natV (ps ++ [n]))) nc1
      generalize upd G2 c1 (.lst (natV (ps ++ [n]))) = G3 at k3 hc1 S5 ⊢
      refine ⟨_, rfl, by show 1 ≤ sizeLine; decide, fun u2 nu2 => ?_⟩
      have k4 := same_new (o := .lst [.int 0]) nu2
      have hu2 : (upd G3 u2 (.lst [.int 0])) u2 = some (.lst [.int 0]) := upd_same
      have S6 := S5.new (o := .lst [.int 0]) nu2
      generalize upd G3 u2 (.lst [.int 0]) = G4 at k4 hu2 S6 ⊢
      refine ⟨_, _, _, _, rfl, rfl, (((k1.trans k2).trans k3).trans k4) _ _ hl2, hu2, by rw [lps]; exact Nat.le_trans (by show _ ≤ 1001; show n + 1 ≤ 1001; omega) (by decide), fun c2 nc2 => ?_⟩
      have e2 : natV ps ++ [.int 0] = natV (ps ++ [0]) := by unfold natV; rw [List.map_append]; rfl
      rw [e2]
      have k5 := same_new (o := .lst (natV (ps ++ [0]))) nc2
      have hc2 : (upd G4 c2 (.lst (natV (ps ++ [0])))) c2 = some (.lst (natV (ps ++ [0]))) := upd_same
      have S7 := S6.new (o := .lst (natV (ps ++ [0]))) nc2
      generalize upd G4 c2 (.lst (natV (ps ++ [0]))) = G5 at k5 hc2 S7 ⊢
      refine ⟨by show 6 ≤ sizeLine; decide, fun pl npl => ?_⟩
      have k6 := same_new (o := .lst [.ref tp, .ref c1, .ref c2, .non, .int 0, .str (Str.ofString "01")]) npl
      have S8 := S7.new (o := .lst [.ref tp, .ref c1, .ref c2, .non, .int 0, .str (Str.ofString "01")]) npl
      have hpl : (upd G5 pl (.lst [.ref tp, .ref c1, .ref c2, .non, .int 0, .str (Str.ofString "01")])) pl = some (.lst [.ref tp, .ref c1, .ref c2, .non, .int 0, .str (Str.ofString "01")]) := upd_same
      generalize upd G5 pl (.lst [.ref tp, .ref c1, .ref c2, .non, .int 0, .str (Str.ofString "01")]) = G6 at k6 hpl S8 ⊢
      refine ⟨a, ca, S8, .inr ⟨pl, _, rfl, (S7.ne npl).1, hpl, by show 0 < 6; decide, by show 6 ≤ 1000000; decide, fun x H7 mx B7 S9 => ?_⟩⟩
      refine ⟨by show 3 ≤ sizeLine; decide, fun d nd => ?_⟩
      have k8 := same_new (o := .tup (dueO .shape)) nd
      have hd : (upd H7 d (.tup (dueO .shape))) d = some (.tup (dueO .shape)) := upd_same
      refine ⟨by show 2 ≤ sizeLine; decide, fun t nt => ?_⟩
      have k9 := (k8.trans (same_new (o := .tup [x, .ref d]) nt))
      have kk : But a G6 (upd (upd H7 d (.tup (dueO .shape))) t (.tup [x, .ref d])) := B7.trans (But.same k9)
      have n1 := B.free ntp (S2.ne ntp).1
      have Bs := B.trans (But.same (((k1.trans k2).trans k3).trans (k4.trans k5)))
      have n2 := (B.trans (But.same (k1.trans k2))).free nc1 (S4.ne nc1).1
      have n3 := (B.trans (But.same (((k1.trans k2).trans k3).trans k4))).free nc2 (S6.ne nc2).1
      have h1 := kk _ _ (S2.ne ntp).1 (k6 _ _ (k5 _ _ (k4 _ _ (k3 _ _ (k2 _ _ htp)))))
      have h2 := kk _ _ (S4.ne nc1).1 (k6 _ _ (k5 _ _ (k4 _ _ hc1)))
      have h3 := kk _ _ (S6.ne nc2).1 (k6 _ _ hc2)
      have l5 : ps.length ≤ 64 := by omega
      have fin : OrdFlt (upd (upd H7 d (.tup (dueO .shape))) t (.tup [x, .ref d])) x n .shape ∧ ∀ c, H c ≠ none → Deep c 2 (upd (upd H7 d (.tup (dueO .shape))) t (.tup [x, .ref d])) x := by
        generalize upd (upd H7 d (.tup (dueO .shape))) t (.tup [x, .ref d]) = G at h1 h2 h3 ⊢
        have nl (i : Nat) : (natV (ps ++ [i])).length = n + 1 := by unfold natV; rw [List.length_map, List.length_append, lp]; rfl
        rcases List.mem_cons.mp mx with rfl | mx
        · exact ⟨⟨.inr (.inr (.inr (.inr ⟨_, _, rfl, .inr h1⟩))), fun p xs e hp => by cases e; rw [h1] at hp; cases hp⟩, fun c hc => ord_deep (fun e => hc (by rw [← e]; exact n1)) (.inr h1) (by omega) fun i m => by have := low i m; omega⟩
        rcases List.mem_cons.mp mx with rfl | mx
        · refine ⟨⟨.inr (.inr (.inr (.inr ⟨_, _, rfl, .inl h2⟩))), fun p xs e hp => by cases e; rw [h2] at hp; cases hp; rw [nl]; omega⟩, fun c hc => ord_deep (fun e => hc (by rw [← e]; exact n2)) (.inl h2) (by rw [List.length_append]; show ps.length + 1 ≤ 1000; omega) fun i m => ?_⟩
          rcases List.mem_append.mp m with m | m
          · have := low i m; omega
          · rw [List.mem_singleton.mp m]; omega
        rcases List.mem_cons.mp mx with rfl | mx
        · refine ⟨⟨.inr (.inr (.inr (.inr ⟨_, _, rfl, .inl h3⟩))), fun p xs e hp => by cases e; rw [h3] at hp; cases hp; rw [nl]; omega⟩, fun c hc => ord_deep (fun e => hc (by rw [← e]; exact n3)) (.inl h3) (by rw [List.length_append]; show ps.length + 1 ≤ 1000; omega) fun i m => ?_⟩
          rcases List.mem_append.mp m with m | m
          · have := low i m; omega
          · rw [List.mem_singleton.mp m]; omega
        rcases List.mem_cons.mp mx with rfl | mx
        · exact ⟨⟨.inr (.inl rfl), fun p xs e => by cases e⟩, fun c _ => deep_non⟩
        rcases List.mem_cons.mp mx with rfl | mx
        · exact ⟨⟨shal_int, fun p xs e => by cases e⟩, fun c _ => deep_int (Nat.lt_of_lt_of_le (by decide : 0 < 2 ^ 200) (Nat.pow_le_pow_right (by decide) (by decide)))⟩
        · rw [List.mem_singleton.mp mx]
          exact ⟨⟨shal_str (by decide +kernel), fun p xs e => by cases e⟩, fun c _ => deep_str (by decide +kernel)⟩
      exact q x t d .shape _ ((Bs.trans (But.same k6)).trans kk) ((S9.new nd).new nt) upd_same (same_new nt _ _ hd) fin.1 fin.2
    refine iteN (by simpa using g0) ?_
    have n1 : 1 ≤ n := by omega
    refine ⟨_, rfl, rfl, _, rfl, ite2 (fun _ => ?_) (fun g1 => ?_)⟩
    · refine ⟨_, rfl, 1, rfl, l, _, rfl, .inl (.inl hl2), fun u nu => ?_⟩
      have c1 : cutV (natV ps) (some 1) none = natV (ps.drop 1) := by
        rw [show (1 : Int) = ((1 : Nat) : Int) from rfl, cut_drop_all]
        exact List.map_drop.symm
      rw [c1]
      have k1 := same_new (o := .lst (natV (ps.drop 1))) nu
      have hu : (upd H2 u (.lst (natV (ps.drop 1)))) u = some (.lst (natV (ps.drop 1))) := upd_same
      have S3 := S2.new (o := .lst (natV (ps.drop 1))) nu
      have nuH := B.free nu (S2.ne nu).1
      generalize upd H2 u (.lst (natV (ps.drop 1))) = G1 at k1 hu S3 ⊢
      refine ⟨by show 3 ≤ sizeLine; decide, fun d nd => ⟨by show 2 ≤ sizeLine; decide, fun t nt => ?_⟩⟩
      have k8 := same_new (o := .tup (dueO .shape)) nd
      have k9 := same_new (o := .tup [V.ref u, .ref d]) nt
      have hu2 := k9 _ _ (k8 _ _ hu)
      refine q (.ref u) t d .shape _ (B.trans (But.same ((k1.trans k8).trans k9))) ((S3.new nd).new nt) upd_same (same_new nt _ _ upd_same) ⟨.inr (.inr (.inr (.inr ⟨_, _, rfl, .inl hu2⟩))), fun p xs e hp => ?_⟩ fun c hc => ord_deep (fun e => hc (by rw [← e]; exact nuH)) (.inl hu2) (by rw [List.length_drop]; omega) fun i m => by have := low i (List.mem_of_mem_drop m); omega
      cases e
      have hp2 := hu2.symm.trans hp
      cases hp2
      have : (natV (ps.drop 1)).length = n - 1 := by unfold natV; rw [List.length_map, List.length_drop, lp]
      rw [this]
      omega
    refine ⟨_, rfl, _, rfl, _, _, rfl, rfl, a, ca, 0, _, rfl, S2, by omega, fun k H3 k0 k1 B3 S3 => ?_⟩
    have kn : k ≤ (n : Int) - 1 := by omega
    obtain ⟨k, rfl⟩ := Int.eq_ofNat_of_zero_le k0
    refine ⟨_, rfl, _, rfl, _, _, rfl, rfl, a, ca, _, rfl, S3, by omega, by omega, fun v H4 hv dv B4 S4 => ?_⟩
    have hl3 := B3 _ _ la hl2
    have hl4 := B4 _ _ la hl3
    have B14 := (B.trans B3).trans B4
    refine ⟨fun σ H' => ∃ v, σ = [some (.ref a), some (.int (n : Int)), some (.ref l), some (.int dr), some (.int (k : Int)), some v] ∧ (inR v 0 ((n : Int) - 1) = false ∨ ∃ i, v = .int i ∧ 0 ≤ i ∧ i ≤ (n : Int) - 1 ∧ i ∈ (ps.take k).map fun (i : Nat) => (i : Int)) ∧ (∀ c, H c ≠ none → Deep c 1 H' v) ∧ Deep l 1 H' v ∧ But a H H' ∧ Sto H' a ca ∧ H' l = some (.lst (natV ps)), ?_, ?_⟩
    · have stay : ∃ v', [some (.ref a), some (.int (n : Int)), some (.ref l), some (.int dr), some (.int (k : Int)), some v] = [some (.ref a), some (.int (n : Int)), some (.ref l), some (.int dr), some (.int (k : Int)), some v'] ∧ (inR v' 0 ((n : Int) - 1) = false ∨ ∃ i, v' = .int i ∧ 0 ≤ i ∧ i ≤ (n : Int) - 1 ∧ i ∈ (ps.take k).map fun (i : Nat) => (i : Int)) ∧ (∀ c, H c ≠ none → Deep c 1 H4 v') ∧ Deep l 1 H4 v' ∧ But a H H4 ∧ Sto H4 a ca ∧ H4 l = some (.lst (natV ps)) :=
        ⟨v, rfl, .inl hv, fun c hc => dv c (fun z => by
          by_cases ca' : c = a
          · subst ca'
            exact S3.some.1 z
          · exact hc ((B.trans B3).free z ca')), dv l (by rw [hl3]; exact fun z => by cases z), B14, S4, hl4⟩
      refine ⟨_, rfl, rfl, _, rfl, ite2 (fun g6 => ?_) (fun _ => iteF stay)⟩
      refine ⟨_, rfl, _, _, rfl, rfl, _, rfl, ite2 (fun g7 => ?_) (fun _ => stay)⟩
      have k1 : 0 < k := by
        have := of_decide_eq_true g7
        omega
      refine ⟨_, rfl, _, rfl, _, rfl, a, ca, (k : Int), rfl, S4, by omega, fun j H5 j0 j1 B5 S5 => ?_⟩
      obtain ⟨j, rfl⟩ := Int.eq_ofNat_of_zero_le j0
      have hl5 := B5 _ _ la hl4
      have jk : j < k := by omega
      have lj : j < ps.length := by omega
      have ej : (natV ps)[j]? = some (.int ((ps[j] : Nat) : Int)) := by
        unfold natV
        rw [List.getElem?_map, List.getElem?_eq_getElem lj]
        rfl
      have lw := low _ (List.getElem_mem lj)
      have dd : ∀ c, Deep c 1 H5 (.int ((ps[j] : Nat) : Int)) := fun c => deep_int (Nat.lt_of_le_of_lt (by omega : _ ≤ 5000) (Nat.lt_of_lt_of_le (by decide : 5000 < 2 ^ 200) (Nat.pow_le_pow_right (by decide) (by decide))))
      refine ⟨_, _, _, _, rfl, rfl, .inl (.inl hl5), atI_nat ej, _, rfl, .inr ⟨_, rfl, by omega, by omega, List.mem_map.mpr ⟨ps[j], ?_, rfl⟩⟩, fun c _ => dd c, dd l, B14.trans B5, S5, hl5⟩
      exact List.mem_of_getElem? (i := j) (by rw [List.getElem?_take, if_pos jk, List.getElem?_eq_getElem lj])
    · rintro σ H5 ⟨v, rfl, bad, dv, dl, B5, S5, hl5⟩
      have lk : k < (natV ps).length := by rw [lps]; omega
      refine ⟨_, rfl, _, rfl, _, rfl, _, _, _, k, rfl, rfl, hl5, ixN_at lk, ?_⟩
      have hl6 : (upd H5 l (.lst ((natV ps).set k v))) l = some (.lst ((natV ps).set k v)) := upd_same
      have S6 := S5.put (o := .lst ((natV ps).set k v)) ⟨la, lc⟩
      have B6 := (But.refl H).grown (o := .lst ((natV ps).set k v)) nl B5 hl5
      have b6 := But.put (a := l) (o := .lst ((natV ps).set k v)) hl5
      have dv6 : ∀ c, H c ≠ none → ∀ x ∈ (natV ps).set k v, Deep c 1 (upd H5 l (.lst ((natV ps).set k v))) x := fun c hc x mx => by
        rcases List.mem_or_eq_of_mem_set mx with m | e
        · obtain ⟨i, mi, rfl⟩ := List.mem_map.mp m
          have := low i mi
          exact deep_int (Nat.lt_of_le_of_lt (by omega : _ ≤ 5000) (Nat.lt_of_lt_of_le (by decide : 5000 < 2 ^ 200) (Nat.pow_le_pow_right (by decide) (by decide))))
        · rw [e]
          exact (dv c hc).put b6 dl
      have dl6 := dl.put b6 dl
      have sv : Shal (upd H5 l (.lst ((natV ps).set k v))) v := dl6.shal
      generalize upd H5 l (.lst ((natV ps).set k v)) = H6 at hl6 S6 B6 dv6 dl6 sv ⊢
      refine ⟨fun σ H' => ∃ xs, σ = [some (.ref a), some (.int (n : Int)), some (.ref l), some (.int dr), some (.int (k : Int)), some v] ∧ H' l = some (.lst xs) ∧ xs.length = n ∧ xs.take k = ((ps.take k).map fun (i : Nat) => (i : Int)).map V.int ∧ xs[k]? = some v ∧ Shal H' v ∧ (∀ c, H c ≠ none → ∀ x ∈ xs, Deep c 1 H' x) ∧ But a H H' ∧ Sto H' a ca, ?_, ?_⟩
      · have tk : ((natV ps).set k v).take k = ((ps.take k).map fun (i : Nat) => (i : Int)).map V.int := by
          rw [List.take_set_of_le (Nat.le_refl _)]
          unfold natV
          rw [← List.map_take, List.map_map]
          rfl
        have lset : ((natV ps).set k v).length = n := by rw [List.length_set]; exact lps
        have gset : ((natV ps).set k v)[k]? = some v := by rw [List.getElem?_set_self lk]
        have stay : ∃ xs, [some (.ref a), some (.int (n : Int)), some (.ref l), some (.int dr), some (.int (k : Int)), some v] = [some (.ref a), some (.int (n : Int)), some (.ref l), some (.int dr), some (.int (k : Int)), some v] ∧ H6 l = some (.lst xs) ∧ xs.length = n ∧ xs.take k = ((ps.take k).map fun (i : Nat) => (i : Int)).map V.int ∧ xs[k]? = some v ∧ Shal H6 v ∧ (∀ c, H c ≠ none → ∀ x ∈ xs, Deep c 1 H6 x) ∧ But a H H6 ∧ Sto H6 a ca :=
          ⟨_, rfl, hl6, lset, tk, gset, sv, dv6, B6, S6⟩
        refine ⟨_, rfl, _, rfl, _, _, rfl, rfl, _, _, rfl, rfl, _, rfl, ite2 (fun g8 => ?_) (fun _ => iteF stay)⟩
        have kn1 : (k : Int) < (n : Int) - 1 := of_decide_eq_true g8
        refine ⟨_, rfl, a, ca, 2, rfl, S6, by decide, fun e H7 e0 e1 B7 S7 => ⟨rfl, _, rfl, ?_⟩⟩
        have hl7 := B7 _ _ la hl6
        have sv7 : Shal H7 v := by
          rcases sv with h | h | h | h | ⟨p, ys, h, o⟩
          · exact .inl h
          · exact .inr (.inl h)
          · exact .inr (.inr (.inl h))
          · exact .inr (.inr (.inr (.inl h)))
          · have da := dv6 a S.some.1 v (List.mem_of_getElem? gset)
            exact (da.but B7).shal
        have dv7 : ∀ c, H c ≠ none → ∀ x ∈ (natV ps).set k v, Deep c 1 H7 x := fun c hc x mx => (dv6 c hc x mx).put B7 (dv6 a S.some.1 x mx)
        refine ite2 (fun _ => ?_) (fun _ => ⟨_, rfl, hl7, lset, tk, gset, sv7, dv7, B6.trans B7, S7⟩)
        refine ⟨_, rfl, _, rfl, _, _, rfl, rfl, _, _, _, n - 1, rfl, rfl, hl7, ?_, ?_⟩
        · rw [show (n : Int) - 1 = ((n - 1 : Nat) : Int) by omega]
          exact ixN_at (by rw [lset]; omega)
        have b8 := But.put (a := l) (o := .lst (((natV ps).set k v).set (n - 1) .non)) hl7
        have l8 : ∀ x ∈ (natV ps).set k v, Deep l 1 H7 x := fun x mx => by
          rcases List.mem_or_eq_of_mem_set mx with m | e
          · obtain ⟨i, mi, rfl⟩ := List.mem_map.mp m
            have := low i mi
            exact deep_int (Nat.lt_of_le_of_lt (by omega : _ ≤ 5000) (Nat.lt_of_lt_of_le (by decide : 5000 < 2 ^ 200) (Nat.pow_le_pow_right (by decide) (by decide))))
          · rw [e]
            exact dl6.put B7 (dv6 a S.some.1 v (List.mem_of_getElem? gset))
        refine ⟨_, rfl, upd_same, by rw [List.length_set]; exact lset, by rw [List.take_set_of_le (by omega)]; exact tk, by rw [List.getElem?_set_ne (by omega)]; exact gset, ?_, fun c hc x mx => ?_, (But.refl H).grown nl (B6.trans B7) hl7, S7.put ⟨la, lc⟩⟩
        · exact ((l8 v (List.mem_of_getElem? gset)).put b8 (l8 v (List.mem_of_getElem? gset))).shal
        · rcases List.mem_or_eq_of_mem_set mx with m | e
          · exact (dv7 c hc x m).put b8 (l8 x m)
          · rw [e]
            exact deep_non
      · rintro σ H7 ⟨xs, rfl, hx, lx, tk, gk, sv7, dv7, B7, S7⟩
        refine ⟨_, rfl, _, rfl, by show 3 ≤ sizeLine; decide, fun d nd => ⟨by show 2 ≤ sizeLine; decide, fun t nt => ?_⟩⟩
        have k8 := same_new (o := .tup (dueO (.at k))) nd
        have k9 := same_new (o := .tup [V.ref l, .ref d]) nt
        have k10 := k8.trans k9
        refine q (.ref l) t d (.at k) _ (B7.trans (But.same k10)) ((S7.new nd).new nt) upd_same (same_new nt _ _ upd_same) ⟨l, xs, _, v, rfl, k10 _ _ hx, lx, tk, fun i mi => ?_, ?_, gk, sv7.same k10, bad⟩ fun c hc => deep_lst (fun e => hc (by rw [← e]; exact nl)) (k10 _ _ hx) (by omega) fun x mx => (dv7 c hc x mx).same k10
        · obtain ⟨j, mj, rfl⟩ := List.mem_map.mp mi
          have := low j (List.mem_of_mem_take mj)
          omega
        · exact nodup_map (fun a b e => Int.ofNat.inj e) ((pm.nodup_iff.mpr List.nodup_range).sublist (List.take_sublist _ _))

def sp_copyD [Tabl] (n : Nat) : Sp := fun vs H Q _ => ∃ v : V, vs = [v] ∧ (∃ a, Deep a n H v) ∧ ∀ (u : V) (H' : Hp), Same H H' → SameD n H' u v → (∀ b, H b ≠ none → Deep b n H v → Deep b n H' u) → Q u H'
/-- what stands behind i items: their copies, apart from the new list -/
def CopyI [Tabl] (n : Nat) (H : Hp) (D : Addr) (xs : List V) (i : Nat) (H' : Hp) : Prop := Same H H' ∧ ∃ ys : List V, H' D = some (.lst ys) ∧ ys.length = i ∧ ∀ (j : Nat) (x y : V), xs[j]? = some x → ys[j]? = some y → SameD n H' y x ∧ Deep D n H' y ∧ ∀ b, H b ≠ none → Deep b n H x → Deep b n H' y
theorem CopyI.step [Tabl] {n i : Nat} {H H1 H2 : Hp} {D : Addr} {xs : List V} {x u : V} {ys : List V} {a : Addr} (nD : H D = none) (s1 : Same H H1) (hD : H1 D = some (.lst ys)) (ly : ys.length = i) (lx : xs.length ≤ 1000000) (hx : xs[i]? = some x)
    (dx : ∀ x ∈ xs, Deep a n H x) (c : ∀ (j : Nat) (x y : V), xs[j]? = some x → ys[j]? = some y → SameD n H1 y x ∧ Deep D n H1 y ∧ ∀ b, H b ≠ none → Deep b n H x → Deep b n H1 y)
    (s2 : Same H1 H2) (su : SameD n H2 u x) (du : ∀ b, H1 b ≠ none → Deep b n H1 x → Deep b n H2 u) : CopyI n H D xs (i + 1) (upd H2 D (.lst (ys ++ [u]))) := by
  have hD2 : H2 D = some (.lst ys) := s2 _ _ hD
  have kb : But D H2 (upd H2 D (.lst (ys ++ [u]))) := But.put hD2
  have mx : ∀ {j z}, xs[j]? = some z → Deep D n H z := fun e => (dx _ (List.mem_of_getElem? e)).avoid nD
  refine ⟨(Same.refl H).grown nD (s1.trans s2) hD2, _, upd_same, by rw [List.length_append, ly]; rfl, fun j z y hz hy => ?_⟩
  by_cases g : j < ys.length
  · rw [List.getElem?_append_left g] at hy
    obtain ⟨c1, c2, c3⟩ := c j z y hz hy
    have d2 := c2.same s2
    exact ⟨(SameD.keep s2 c1).put kb d2 (((mx hz).same s1).same s2), d2.put kb d2, fun b hb db => ((c3 b hb db).same s2).put kb d2⟩
  · have lj : j = i := by
      have := (List.getElem?_eq_some_iff.mp hz).1
      have := (List.getElem?_eq_some_iff.mp hy).1
      rw [List.length_append] at this
      have : j < ys.length + 1 := this
      omega
    subst lj
    rw [List.getElem?_append_right (by omega), ly, Nat.sub_self] at hy
    have ey : u = y := Option.some.inj hy
    subst ey
    rw [hx] at hz
    have ez : x = z := Option.some.inj hz
    subst ez
    have dD : Deep D n H2 u := du D (by rw [hD]; exact fun z => by cases z) ((mx hx).same s1)
    exact ⟨su.put kb dD (((mx hx).same s1).same s2), dD.put kb dD, fun b hb db => (du b (s1.some hb) (db.same s1)).put kb dD⟩
/-- no promise at all -/
theorem fnOk_noCopy {f : Addr} {fd : FuncData} {ps : List Str} {k : Nat} : FnOk P w K mg base CX0 k f fd ps (fun _ _ _ _ => False) :=
  ⟨fun vs H Q E h => h.elim, fun A outer s H args us vs Q E _ _ _ _ h => h.elim⟩
theorem copy_zero {j : Nat} (T : Txt K mg base) :
    FnOk P w K mg base CX0 (j + 1) T.f_copy T.fd_copy ["value"] (sp_copyD 0) := by
  refine T.F_copy.ok sc_copy (fun vs H Q E h => ?_) (fun cdv A outer s H vs Q E hr h => ?_)
  · obtain ⟨v, rfl, _⟩ := h
    rfl
  · obtain ⟨v, rfl, ⟨a, dv⟩, q⟩ := h
    have G : FnOk P w K mg base CX0 j T.f_copy T.fd_copy ["value"] (fun _ _ _ _ => False) := fnOk_noCopy
    refine ⟨_, (pss_cons (ps_if (pt_val (pe_callB call_isi (by rfl) T.z_isinstance (by decide +kernel) (pa_cons (pv 0) (pa_cons (pe_bltn (v := .ty "list") (by rfl) T.z_list (by decide +kernel) rfl) pa_nil)))) (pss_one (ps_ret (pe_lc (own := [("item", 1)]) (g := gName 1) rfl sc_copy.nd (pi_list (pv 0)) (blkOk_by (N := ["value", "item"]) (sc := defScope s_copy) (by decide +kernel)) (fun _ _ _ _ _ => pg_name (i := 1) sc_copy.nd rfl (Or.inl rfl)) (fun _ _ _ _ _ => pts_nil) (fun _ _ _ _ _ => (pe_call G (hr.mono (by first | decide | exact Nat.le_refl _)) (by rfl) T.g_copy T.F_copy.kp T.b_copy .nil pass0 (pa_cons (pv 1) pa_nil)))))) pss_nil)
      (pss_cons (ps_if (pt_val (pe_callB call_isi (by rfl) T.z_isinstance (by decide +kernel) (pa_cons (pv 0) (pa_cons (pe_bltn (v := .ty "tuple") (by rfl) T.z_tuple (by decide +kernel) rfl) pa_nil)))) (pss_one (ps_ret (pe_callTy call_tuple_of (by rfl) T.z_tuple (by decide +kernel) (pa_cons (pe_lc (own := [("item", 1)]) (g := gName 1) rfl sc_copy.nd (pi_tup (pv 0)) (blkOk_by (N := ["value", "item"]) (sc := defScope s_copy) (by decide +kernel)) (fun _ _ _ _ _ => pg_name (i := 1) sc_copy.nd rfl (Or.inl rfl)) (fun _ _ _ _ _ => pts_nil) (fun _ _ _ _ _ => (pe_call G (hr.mono (by first | decide | exact Nat.le_refl _)) (by rfl) T.g_copy T.F_copy.kp T.b_copy .nil pass0 (pa_cons (pv 1) pa_nil)))) pa_nil)))) pss_nil)
      (pss_one (ps_ret (pv 0))))), ?_⟩
    rcases dv with ⟨pl, tx, it⟩ | ⟨p, xs, rfl, ne, o, lx, dx⟩
    · have sv : Shal H v := (show Deep a 0 H v from .inl ⟨pl, tx, it⟩).shal
      have done : Q v H := q v H (.refl H) (show Deep a 0 H v from .inl ⟨pl, tx, it⟩).samed (fun b _ d => d)
      cases v with
      | non => exact ⟨_, rfl, _, _, _, _, false, rfl, .ty _, .base .non, kit_ty (by decide +kernel), _, rfl, iteF ⟨_, rfl, _, _, _, _, false, rfl, .ty _, .base .non, kit_ty (by decide +kernel), _, rfl, iteF ⟨_, rfl, done⟩⟩⟩
      | bl b => exact ⟨_, rfl, _, _, _, _, false, rfl, .ty _, .base (.bl b), kit_ty (by decide +kernel), _, rfl, iteF ⟨_, rfl, _, _, _, _, false, rfl, .ty _, .base (.bl b), kit_ty (by decide +kernel), _, rfl, iteF ⟨_, rfl, done⟩⟩⟩
      | int b => exact ⟨_, rfl, _, _, _, _, false, rfl, .ty _, .base (.int b), kit_ty (by decide +kernel), _, rfl, iteF ⟨_, rfl, _, _, _, _, false, rfl, .ty _, .base (.int b), kit_ty (by decide +kernel), _, rfl, iteF ⟨_, rfl, done⟩⟩⟩
      | str b => exact ⟨_, rfl, _, _, _, _, false, rfl, .ty _, .base (.str b), kit_ty (by decide +kernel), _, rfl, iteF ⟨_, rfl, _, _, _, _, false, rfl, .ty _, .base (.str b), kit_ty (by decide +kernel), _, rfl, iteF ⟨_, rfl, done⟩⟩⟩
      | byt b => cases pl
      | flt b => cases pl
      | ref b => cases pl
      | ty b => cases pl
    · rcases o with hp | hp
      · refine ⟨_, rfl, _, _, _, _, true, rfl, .ty _, .base (.lst hp), kit_ty (by decide +kernel), _, rfl, iteT ?_⟩
        have e0 : xs = [] := List.eq_nil_iff_forall_not_mem.mpr fun x m => dx x m
        subst e0
        refine ⟨_, rfl, p, rfl, ⟨_, .inl (.inl hp)⟩, fun D nD => ?_⟩
        refine lc_list (K := K) (a := p) (xs := []) (fun i H' => Same H H' ∧ H' D = some (.lst [])) ⟨same_new nD, upd_same⟩ (fun i H' _ h => .inl (.inl (h.1 _ _ hp))) ?_ ?_
        · rintro i v H1 hv _
          cases hv
        · rintro H1 ⟨s1, hD⟩
          refine q _ _ s1 (.inr ⟨D, p, [], [], rfl, rfl, .inr ⟨hD, s1 _ _ hp⟩, rfl, lx, fun i y x ey ex => by cases ex⟩) (fun b hb db => ?_)
          exact .inr ⟨D, [], rfl, fun e => hb (by rw [← e]; exact nD), .inl hD, lx, fun y m => absurd m List.not_mem_nil⟩
      · refine ⟨_, rfl, _, _, _, _, false, rfl, .ty _, .base (.tup hp), kit_ty (by decide +kernel), _, rfl, iteF ?_⟩
        refine ⟨_, rfl, _, _, _, _, true, rfl, .ty _, .base (.tup hp), kit_ty (by decide +kernel), _, rfl, iteT ?_⟩
        have e0 : xs = [] := List.eq_nil_iff_forall_not_mem.mpr fun x m => dx x m
        subst e0
        refine ⟨_, rfl, p, rfl, ⟨_, .inl (.inl hp)⟩, fun D nD => ?_⟩
        refine lc_tup (K := K) (a := p) (xs := []) (fun i H' => Same H H' ∧ H' D = some (.lst [])) ⟨same_new nD, upd_same⟩ (fun i H' _ h => .inl (.inl (h.1 _ _ hp))) ?_ ?_
        · rintro i v H1 hv _
          cases hv
        · rintro H1 ⟨s1, hD⟩
          refine ⟨D, _, rfl, .inl ⟨.inl (.inl hD), fun t nt => ?_⟩⟩
          have s3 := s1.trans (same_new (o := .tup []) nt)
          refine q _ _ s3 (.inr ⟨t, p, [], [], rfl, rfl, .inl ⟨upd_same, s3 _ _ hp⟩, rfl, lx, fun i y x ey ex => by cases ex⟩) (fun b hb db => ?_)
          exact .inr ⟨t, [], rfl, fun e => hb (by rw [← e]; exact s1.free nt), .inr upd_same, lx, fun y m => absurd m List.not_mem_nil⟩
theorem copy_step {j n : Nat} (T : Txt K mg base) (G : FnOk P w K mg base CX0 j T.f_copy T.fd_copy ["value"] (sp_copyD n)) :
    FnOk P w K mg base CX0 (j + 1) T.f_copy T.fd_copy ["value"] (sp_copyD (n + 1)) := by
  refine T.F_copy.ok sc_copy (fun vs H Q E h => ?_) (fun cdv A outer s H vs Q E hr h => ?_)
  · obtain ⟨v, rfl, _⟩ := h
    rfl
  · obtain ⟨v, rfl, ⟨a, dv⟩, q⟩ := h
    refine ⟨_, (pss_cons (ps_if (pt_val (pe_callB call_isi (by rfl) T.z_isinstance (by decide +kernel) (pa_cons (pv 0) (pa_cons (pe_bltn (v := .ty "list") (by rfl) T.z_list (by decide +kernel) rfl) pa_nil)))) (pss_one (ps_ret (pe_lc (own := [("item", 1)]) (g := gName 1) rfl sc_copy.nd (pi_list (pv 0)) (blkOk_by (N := ["value", "item"]) (sc := defScope s_copy) (by decide +kernel)) (fun _ _ _ _ _ => pg_name (i := 1) sc_copy.nd rfl (Or.inl rfl)) (fun _ _ _ _ _ => pts_nil) (fun _ _ _ _ _ => (pe_call G (hr.mono (by first | decide | exact Nat.le_refl _)) (by rfl) T.g_copy T.F_copy.kp T.b_copy .nil pass0 (pa_cons (pv 1) pa_nil)))))) pss_nil)
      (pss_cons (ps_if (pt_val (pe_callB call_isi (by rfl) T.z_isinstance (by decide +kernel) (pa_cons (pv 0) (pa_cons (pe_bltn (v := .ty "tuple") (by rfl) T.z_tuple (by decide +kernel) rfl) pa_nil)))) (pss_one (ps_ret (pe_callTy call_tuple_of (by rfl) T.z_tuple (by decide +kernel) (pa_cons (pe_lc (own := [("item", 1)]) (g := gName 1) rfl sc_copy.nd (pi_tup (pv 0)) (blkOk_by (N := ["value", "item"]) (sc := defScope s_copy) (by decide +kernel)) (fun _ _ _ _ _ => pg_name (i := 1) sc_copy.nd rfl (Or.inl rfl)) (fun _ _ _ _ _ => pts_nil) (fun _ _ _ _ _ => (pe_call G (hr.mono (by first | decide | exact Nat.le_refl _)) (by rfl) T.g_copy T.F_copy.kp T.b_copy .nil pass0 (pa_cons (pv 1) pa_nil)))) pa_nil)))) pss_nil)
      (pss_one (ps_ret (pv 0))))), ?_⟩
    rcases dv with ⟨pl, tx, it⟩ | ⟨p, xs, rfl, ne, o, lx, dx⟩
    · have sv : Shal H v := (show Deep a (n + 1) H v from .inl ⟨pl, tx, it⟩).shal
      have done : Q v H := q v H (.refl H) (show Deep a (n + 1) H v from .inl ⟨pl, tx, it⟩).samed (fun b _ d => d)
      cases v with
      | non => exact ⟨_, rfl, _, _, _, _, false, rfl, .ty _, .base .non, kit_ty (by decide +kernel), _, rfl, iteF ⟨_, rfl, _, _, _, _, false, rfl, .ty _, .base .non, kit_ty (by decide +kernel), _, rfl, iteF ⟨_, rfl, done⟩⟩⟩
      | bl b => exact ⟨_, rfl, _, _, _, _, false, rfl, .ty _, .base (.bl b), kit_ty (by decide +kernel), _, rfl, iteF ⟨_, rfl, _, _, _, _, false, rfl, .ty _, .base (.bl b), kit_ty (by decide +kernel), _, rfl, iteF ⟨_, rfl, done⟩⟩⟩
      | int b => exact ⟨_, rfl, _, _, _, _, false, rfl, .ty _, .base (.int b), kit_ty (by decide +kernel), _, rfl, iteF ⟨_, rfl, _, _, _, _, false, rfl, .ty _, .base (.int b), kit_ty (by decide +kernel), _, rfl, iteF ⟨_, rfl, done⟩⟩⟩
      | str b => exact ⟨_, rfl, _, _, _, _, false, rfl, .ty _, .base (.str b), kit_ty (by decide +kernel), _, rfl, iteF ⟨_, rfl, _, _, _, _, false, rfl, .ty _, .base (.str b), kit_ty (by decide +kernel), _, rfl, iteF ⟨_, rfl, done⟩⟩⟩
      | byt b => cases pl
      | flt b => cases pl
      | ref b => cases pl
      | ty b => cases pl
    · rcases o with hp | hp
      · refine ⟨_, rfl, _, _, _, _, true, rfl, .ty _, .base (.lst hp), kit_ty (by decide +kernel), _, rfl, iteT ?_⟩
        refine ⟨_, rfl, p, rfl, ⟨_, .inl (.inl hp)⟩, fun D nD => ?_⟩
        have nDp : D ≠ p := fun e => by
          rw [e, hp] at nD
          cases nD
        refine lc_list (K := K) (a := p) (xs := xs) (fun i H' => CopyI n H D xs i H') ⟨same_new nD, [], upd_same, rfl, fun j x y _ hy => by cases hy⟩ (fun i H' _ h => .inl (.inl (h.1 _ _ hp))) ?_ ?_
        · rintro i v H1 hv ⟨s1, ys, hD, ly, c⟩
          have dv : Deep a n H1 v := (dx v (List.mem_of_getElem? hv)).same s1
          refine ⟨rfl, _, rfl, v, rfl, ⟨a, dv⟩, fun u H2 s2 su du => ?_⟩
          have li : i < xs.length := (List.getElem?_eq_some_iff.mp hv).1
          exact ⟨_, s2 _ _ hD, by rw [ly]; exact Nat.lt_of_lt_of_le (by omega : i < 1000000) (by decide), CopyI.step nD s1 hD ly lx hv dx c s2 su du⟩
        · rintro H1 ⟨s1, ys, hD, ly, c⟩
          refine q _ _ s1 (.inr ⟨D, p, ys, xs, rfl, rfl, .inr ⟨hD, s1 _ _ hp⟩, ly, lx, fun i y x ey ex => (c i x y ex ey).1⟩) (fun b hb db => ?_)
          have dI := (deep_ref db (.inl hp)).2 n rfl
          refine deep_lst (fun e => hb (by rw [← e]; exact nD)) hD (by omega) (fun y my => ?_)
          obtain ⟨i, li, ei⟩ := List.mem_iff_getElem.mp my
          have hy : ys[i]? = some y := by rw [List.getElem?_eq_getElem li, ei]
          have hx : xs[i]? = some xs[i] := List.getElem?_eq_getElem (by omega)
          exact (c i _ y hx hy).2.2 b hb (dI _ (List.getElem_mem _))
      · refine ⟨_, rfl, _, _, _, _, false, rfl, .ty _, .base (.tup hp), kit_ty (by decide +kernel), _, rfl, iteF ?_⟩
        refine ⟨_, rfl, _, _, _, _, true, rfl, .ty _, .base (.tup hp), kit_ty (by decide +kernel), _, rfl, iteT ?_⟩
        refine ⟨_, rfl, p, rfl, ⟨_, .inl (.inl hp)⟩, fun D nD => ?_⟩
        have nDp : D ≠ p := fun e => by
          rw [e, hp] at nD
          cases nD
        refine lc_tup (K := K) (a := p) (xs := xs) (fun i H' => CopyI n H D xs i H') ⟨same_new nD, [], upd_same, rfl, fun j x y _ hy => by cases hy⟩ (fun i H' _ h => .inl (.inl (h.1 _ _ hp))) ?_ ?_
        · rintro i v H1 hv ⟨s1, ys, hD, ly, c⟩
          have dv : Deep a n H1 v := (dx v (List.mem_of_getElem? hv)).same s1
          refine ⟨rfl, _, rfl, v, rfl, ⟨a, dv⟩, fun u H2 s2 su du => ?_⟩
          have li : i < xs.length := (List.getElem?_eq_some_iff.mp hv).1
          exact ⟨_, s2 _ _ hD, by rw [ly]; exact Nat.lt_of_lt_of_le (by omega : i < 1000000) (by decide), CopyI.step nD s1 hD ly lx hv dx c s2 su du⟩
        · rintro H1 ⟨s1, ys, hD, ly, c⟩
          refine ⟨D, _, rfl, .inl ⟨.inl (.inl hD), fun t nt => ?_⟩⟩
          have s3 := s1.trans (same_new (o := .tup ys) nt)
          refine q _ _ s3 (.inr ⟨t, p, ys, xs, rfl, rfl, .inl ⟨upd_same, s3 _ _ hp⟩, ly, lx, fun i y x ey ex => SameD.keep (same_new nt) (c i x y ex ey).1⟩) (fun b hb db => ?_)
          have dI := (deep_ref db (.inr hp)).2 n rfl
          refine deep_tup (fun e => hb (by rw [← e]; exact s1.free nt)) upd_same (by omega) (fun y my => ?_)
          obtain ⟨i, li, ei⟩ := List.mem_iff_getElem.mp my
          have hy : ys[i]? = some y := by rw [List.getElem?_eq_getElem li, ei]
          have hx : xs[i]? = some xs[i] := List.getElem?_eq_getElem (by omega)
          exact ((c i _ y hx hy).2.2 b hb (dI _ (List.getElem_mem _))).same (same_new nt)
theorem ok_copyN (T : Txt K mg base) : ∀ n : Nat, FnOk P w K mg base CX0 (n + 1) T.f_copy T.fd_copy ["value"] (sp_copyD n)
  | 0 => copy_zero T
  | n + 1 => copy_step T (ok_copyN T n)
theorem ok_copy (T : Txt K mg base) : FnOk P w K mg base CX0 10 T.f_copy T.fd_copy ["value"] (sp_copyD 9) := ok_copyN T 9

def ErrE [Tabl] {K : PySem.W.Frag} {mg : Str → Option Value} {base : Heap} (T : Txt K mg base) (H : Hp) (Q : VK) : XK := fun cls d H' => Same H H' ∧ ∃ (dd : Addr) (u v : V), d = some dd ∧ H' dd = some (.xd [("index", u), ("place", v)]) ∧ cls = .ref T.C_BadEntry ∧ ∀ (t : Addr) (H2 : Hp), Same H H2 → H2 t = some (.tup [.str (Str.ofString "BadEntry"), v, u]) → Q (.ref t) H2
/-- what is told of a call: None, or what its error was -/
def tError [Tabl] {K : PySem.W.Frag} {mg : Str → Option Value} {base : Heap} (T : Txt K mg base) : (XK → Hp → VK → Prop) → Hp → VK → Prop := fun tl H Q => tl (ErrE T H Q) H (fun _ H' => Q .non H')
theorem gives_error (T : Txt K mg base) {q : Str} (N : List Str) (qual : Str) (sc : Scope) (fX : Addr) (cdX : Value) (A : Around) (outer : List Env) (s0 : Shared) (H0 : Hp) (E : XK) (cdg : Value) :
    ActGives (cxOf CX0 P w K mg base N qual sc fX cdX A outer s0 H0 E).nox ["action", "e"] "_law_error" (defScope s_error) T.f_error cdg (defBody s_error) "action" q (tError T) := by
  intro f c s H Q tl act code h
  refine ⟨_, (pss_cons (ps_try_as (i := 1) (Wout := fun _ _ _ _ => False) rfl rfl sc_error.nd rfl rfl ⟨rfl, by decide, Or.inl T.E_LagError.g⟩ LamX.takes0 (fun W pn xe tk _ => body_act act tk) (fun a oe cls d pn hz hf => suite_any hz hf))
      (pss_one (ps_ret pe_non))), ?_⟩
  refine ⟨_, ?_, rfl, code, h⟩
  rintro cls d H' ⟨sm, dd, u, v, rfl, hd, rfl, q⟩
  refine ⟨true, T.x_BadEntry_LagError, fun _ a na => ?_, fun z => by cases z⟩
  intro oe pn hz hf
  refine ⟨_, (pss_cons (ps_if (PW.pt (pw_or (pt_val (pe_callB (call_isDT hz hf) (by rfl) T.z_isinstance (by decide +kernel) (pa_cons (pv 1) (pa_cons (pe_tup (pa_cons (pe_glob (v := .ref T.C_BadLetters) (by rfl) T.E_BadLetters.g rfl) (pa_cons (pe_glob (v := .ref T.C_BadNumber) (by rfl) T.E_BadNumber.g rfl) (pa_cons (pe_glob (v := .ref T.C_BadWord) (by rfl) T.E_BadWord.g rfl) (pa_cons (pe_glob (v := .ref T.C_Mismatch) (by rfl) T.E_Mismatch.g rfl) (pa_cons (pe_glob (v := .ref T.C_TooLarge) (by rfl) T.E_TooLarge.g rfl) pa_nil)))))) pa_nil)))) (pw_or1 (pt_not (pt_val (pe_callB (call_isD hz hf) (by rfl) T.z_isinstance (by decide +kernel) (pa_cons (pv 1) (pa_cons (pe_bltn (v := .ty "ValueError") (by rfl) T.z_ValueError (by decide +kernel) rfl) pa_nil)))))))) (pss_one (ps_ret (pe_tup (pa_cons pe_str (pa_cons pe_int (pa_cons pe_int pa_nil)))))) pss_nil)
      (pss_cons (ps_if (pt_val (pe_callB (call_isD hz hf) (by rfl) T.z_isinstance (by decide +kernel) (pa_cons (pv 1) (pa_cons (pe_glob (v := .ref T.C_BadEntry) (by rfl) T.E_BadEntry.g rfl) pa_nil)))) (pss_one (ps_ret (pe_tup (pa_cons pe_str (pa_cons (by exact pe_xf T.E_BadEntry.f T.no_BadEntry_place hz hf (pv 1)) (pa_cons (by exact pe_xf T.E_BadEntry.f T.no_BadEntry_index hz hf (pv 1)) pa_nil)))))) pss_nil)
      (pss_one (ps_ret (pe_tup (pa_cons pe_str (pa_cons pe_int (pa_cons pe_int pa_nil)))))))), ?_⟩
  refine ⟨_, rfl, by show 5 ≤ sizeLine; decide, fun tp ntp => ?_⟩
  have k := same_new (o := .tup [.ref T.C_BadLetters, .ref T.C_BadNumber, .ref T.C_BadWord, .ref T.C_Mismatch, .ref T.C_TooLarge]) ntp
  have htp : (upd H' tp (.tup [.ref T.C_BadLetters, .ref T.C_BadNumber, .ref T.C_BadWord, .ref T.C_Mismatch, .ref T.C_TooLarge])) tp = some (.tup [.ref T.C_BadLetters, .ref T.C_BadNumber, .ref T.C_BadWord, .ref T.C_Mismatch, .ref T.C_TooLarge]) := upd_same
  have hd2 := k _ _ hd
  generalize upd H' tp (.tup [.ref T.C_BadLetters, .ref T.C_BadNumber, .ref T.C_BadWord, .ref T.C_Mismatch, .ref T.C_TooLarge]) = H2 at k htp hd2 ⊢
  refine ⟨_, _, _, _, false, rfl, T.E_BadEntry.i, rfl, htp, .cons (.own _) (.cons (.own _) (.cons (.own _) (.cons (.own _) (.cons (.own _) .nil)))), fun x e => ⟨_, by cases e; exact hd2⟩, any_no T.k_BadEntry_BadLetters (any_no T.k_BadEntry_BadNumber (any_no T.k_BadEntry_BadWord (any_no T.k_BadEntry_Mismatch (any_no T.k_BadEntry_TooLarge any_end)))), _, rfl, iteF ?_⟩
  refine ⟨_, rfl, _, _, _, true, rfl, T.E_BadEntry.i, rfl, fun u r => r, fun x e => ⟨_, by cases e; exact hd2⟩, T.k_BadEntry_ValueError, _, rfl, iteF ?_⟩
  refine ⟨_, rfl, _, _, _, true, rfl, T.E_BadEntry.i, rfl, fun u r => r, fun x e => ⟨_, by cases e; exact hd2⟩, T.k_BadEntry_BadEntry, _, rfl, iteT ?_⟩
  refine ⟨_, rfl, rfl, rfl, dd, _, v, rfl, hd2, lookup2 (by decide +kernel), _, rfl, rfl, rfl, dd, _, u, rfl, hd2, rfl, by show 3 ≤ sizeLine; decide, fun t nt => ?_⟩
  exact q t _ ((sm.trans k).trans (same_new nt)) upd_same

def sp_refuses [Tabl] (C : Addr) (K : PySem.W.Frag) : Sp := fun vs H Q _ => ∃ (a ca m : Addr) (r z : Str) (n : Nat) (dx b c e : Addr) (bx ax ex : List V) (bd : List (Int × Str)) (ad : List EnS.Arc) (ed : List (Int × Str)), vs = [.ref a, .ref m, .int (n : Int)] ∧ Sto H a ca ∧ MA C H m r z n dx b c e bx ax ex bd ad ed ∧ Good H ∧ GoodM r z n bd ad ed ∧ bd.length ≤ 400 ∧ ad.length ≤ 400 ∧ ed.length ≤ 400 ∧ b ≠ a ∧ c ≠ a ∧ e ≠ a ∧
  ∀ H' : Hp, But a H H' → Sto H' a ca → Q (.bl true) H'
theorem ok_refuses (T : Txt K mg base) : FnOk P w K mg base CX0 (13 + 1) T.f_refuses T.fd_refuses ["store", "machine", "size"] (sp_refuses T.C_Machine K) := by
  refine T.F_refuses.ok sc_refuses (fun vs H Q E h => ?_) (fun A outer s H vs Q E hr h => ?_)
  · obtain ⟨a, ca, m, r, z, n, dx, b, c, e, bx, ax, ex, bd, ad, ed, rfl, _⟩ := h
    rfl
  · obtain ⟨a, ca, m, r, z, n, dx, b, c, e, bx, ax, ex, bd, ad, ed, rfl, S, M, good, g, lb, la, le, b1, c1, e1, q⟩ := h
    refine ⟨_, (pss_cons (ps_set (i := 3) sc_refuses.nd rfl (.inl rfl) (pe_call (ok_bad_order T) (hr.mono (by first | decide | exact Nat.le_refl _)) (by rfl) T.g_bad_order T.F_bad_order.kp T.b_bad_order .nil pass0 (pa_cons (pv 0) (pa_cons (pv 2) pa_nil))))
      (pss_cons (ps_set (i := 4) sc_refuses.nd rfl (.inr rfl) (pe_call (ok_copy T) (hr.mono (by first | decide | exact Nat.le_refl _)) (by rfl) T.g_copy T.F_copy.kp T.b_copy .nil pass0 (pa_cons (pe_ix ix_tup (pv 3) pe_int (fun _ _ => rfl)) pa_nil)))
      (pss_one (ps_ret (pe_and (pe_call (ok_same T) (hr.mono (by first | decide | exact Nat.le_refl _)) (by rfl) T.g_same T.F_same.kp T.b_same .nil pass0 (pa_cons (pe_lam (k := 10) T.F_error T.b_error sc_error (fun cdg => gives_error T _ _ _ _ _ _ _ _ _ _ cdg) T.B_refuses T.m_refuses rfl (hr.mono (by first | decide | exact Nat.le_refl _)) (LamX.lamS_by (sc := defScope s_refuses) (by decide +kernel)) T.g_error (fun A outer s H E f c hr2 => pe_callS (ok_renumber T) hr2 (by rfl) T.g_renumber T.F_renumber.kp T.b_renumber (fun σ => passAt (takes_of rfl rfl rfl rfl) σ) (pa_cons (pv 1) (pa_cons (pv 4) pa_nil)))) (pa_cons (pe_ix ix_tup (pv 3) pe_int (fun _ _ => rfl)) pa_nil))) (pe_one (pe_call (ok_same T) (hr.mono (by first | decide | exact Nat.le_refl _)) (by rfl) T.g_same T.F_same.kp T.b_same .nil pass0 (pa_cons (pv 4) (pa_cons (pe_ix ix_tup (pv 3) pe_int (fun _ _ => rfl)) pa_nil))))))))), ?_⟩
    have n64 := g.n64
    refine ⟨_, rfl, _, rfl, a, ca, n, rfl, S, by omega, fun v t d f H1 B1 S1 ht hd fl dv => ?_⟩
    have M1 := M.but B1 S b1 c1 e1
    refine ⟨_, rfl, _, _, _, _, rfl, rfl, .inl (.inl ht), rfl, v, rfl, ⟨a, (dv a S.some.1).le (by decide)⟩, fun u H2 s2 su du => ?_⟩
    have fl2 := fl.copied s2 su
    have M2 := M1.same s2
    refine ⟨(s2.good (B1.good good)), fun H3 s3 => ?_⟩
    have M3 := M2.same s3
    have fl3 := fl2.same s3
    refine ⟨_, rfl, _, rfl, m, u, r, z, n, dx, b, c, e, bx, ax, ex, bd, ad, ed, rfl, M3, s3.good (s2.good (B1.good good)), g, lb, la, le, .inr ⟨f, fl3, fun d' H4 H5 s4 n4 e5 => ?_⟩⟩
    subst e5
    have fin : ∃ dd u v, some d' = some dd ∧ (upd H4 d' (.xd (f.fs (Str.ofString "order")))) dd = some (.xd [("index", u), ("place", v)]) ∧ Value.ref (f.cls T.C_BadEntry T.C_TooLarge) = .ref T.C_BadEntry ∧ dueO f = [.str (Str.ofString "BadEntry"), v, u] := by
      cases f with
      | large => exact fl.elim
      | shape => exact ⟨d', _, _, rfl, upd_same, rfl, rfl⟩
      | «at» k => exact ⟨d', _, _, rfl, upd_same, rfl, rfl⟩
    obtain ⟨dd, w1, w2, e1', e2', e3', e4'⟩ := fin
    refine ⟨s4.trans (same_new n4), dd, w1, w2, e1', e2', e3', fun t' H6 s6 ht' => ?_⟩
    have s26 := (s2.trans s3).trans s6
    have hd6 := s26 _ _ hd
    rw [e4'] at hd6
    have pl : ∀ x ∈ dueO f, plainV x = true := by
      cases f with
      | large => exact fl.elim
      | shape => exact List.forall_mem_cons.mpr ⟨rfl, List.forall_mem_cons.mpr ⟨rfl, List.forall_mem_cons.mpr ⟨rfl, fun x m => absurd m List.not_mem_nil⟩⟩⟩
      | «at» k => exact List.forall_mem_cons.mpr ⟨rfl, List.forall_mem_cons.mpr ⟨rfl, List.forall_mem_cons.mpr ⟨rfl, fun x m => absurd m List.not_mem_nil⟩⟩⟩
    rw [e4'] at pl
    refine ⟨_, rfl, _, _, _, _, rfl, rfl, .inl (.inl (s26 _ _ ht)), rfl, _, _, rfl, .inr ⟨t', d, _, _, rfl, rfl, .inl ⟨ht', hd6⟩, rfl, by show 3 ≤ 1000000; decide, fun j x y' ex ey => ?_⟩, _, rfl, iteC rfl ?_⟩
    · rw [ex] at ey
      cases ey
      exact .inl ⟨rfl, pl x (List.mem_of_getElem? ex)⟩
    · exact ⟨_, rfl, _, rfl, _, _, _, _, rfl, rfl, .inl (.inl (s26 _ _ ht)), rfl, _, _, rfl, su.keep (s3.trans s6), q H6 (B1.trans (But.same s26)) (S1.same s26)⟩

def sp_some_order (_ : PySem.W.Frag) : Sp := fun vs H Q _ => ∃ (a ca : Addr) (n : Nat), vs = [.ref a, .int (n : Int)] ∧ Sto H a ca ∧ n ≤ 1000 ∧
  ∀ (ps : List Nat) (p : Addr) (H' : Hp), ps.Perm (List.range n) → But a H H' → Sto H' a ca → H p = none → p ≠ a → p ≠ ca → H' p = some (.lst (natV ps)) → Q (.ref p) H'
theorem ok_some_order (T : Txt K mg base) : FnOk P w K mg base CX0 (3 + 1) T.f_some_order T.fd_some_order ["store", "size"] (sp_some_order K) := by
  refine T.F_some_order.ok sc_some_order (fun vs H Q E h => ?_) (fun cdv A outer s H vs Q E hr h => ?_)
  · obtain ⟨a, ca, n, rfl, _⟩ := h
    rfl
  · obtain ⟨a, ca, n, rfl, S, hn, q⟩ := h
    refine ⟨_, (pss_cons (ps_set (i := 2) sc_some_order.nd rfl (.inl rfl) (pe_listRg rfl (by rfl) T.z_list (prg_1 (by rfl) T.z_range (pv 1))))
      (pss_cons (ps_set (i := 3) sc_some_order.nd rfl (.inl rfl) (pe_call (ok_take T) (hr.mono (by first | decide | exact Nat.le_refl _)) (by rfl) T.g_take T.F_take.kp T.b_take .nil pass0 (pa_cons (pv 0) (pa_cons pe_int pa_nil))))
      (C8.pss_cut (ps_if (pt_cmpR op_eq (pv 3) pe_int (nomark _)) (pss_one (ps_expr (pe_bm0 PySem.F.plainAttrs_list PySem.F.slot_list_reverse PySem.F.type_list_reverse mt_reverse (pv 2)))) (pss_one (ps_if (pt_cmpR op_eq (pv 3) pe_int (nomark _)) (pss_one (ps_set (i := 2) sc_some_order.nd rfl (.inl rfl) (pe_op op_cat (pe_slice sl_list (pv 2) (po_some pe_int) po_none) (pe_slice sl_list (pv 2) po_none (po_some pe_int))))) (pss_one (ps_if (PW.pt (pw_and (pt_cmpR op_eq (pv 3) pe_int (nomark _)) (pw_and1 (pt_cmpR op_gt (pv 1) pe_int (nomark _))))) (pss_cons (ps_set (i := 4) sc_some_order.nd rfl (.inl rfl) (pe_call (ok_take T) (hr.mono (by first | decide | exact Nat.le_refl _)) (by rfl) T.g_take T.F_take.kp T.b_take .nil pass0 (pa_cons (pv 0) (pa_cons (pv 1) pa_nil))))
      (pss_cons (ps_set (i := 5) sc_some_order.nd rfl (.inl rfl) (pe_call (ok_take T) (hr.mono (by first | decide | exact Nat.le_refl _)) (by rfl) T.g_take T.F_take.kp T.b_take .nil pass0 (pa_cons (pv 0) (pa_cons (pv 1) pa_nil))))
      (pss_cons (ps_set (i := 6) sc_some_order.nd rfl (.inl rfl) (pe_ix ix_list (pv 2) (pv 4) (fun _ _ => rfl)))
      (pss_cons (ps_asg (pe_ix ix_list (pv 2) (pv 5) (fun _ _ => rfl)) (pg_sub (pv 2) (pv 4) set_list))
      (pss_one (ps_asg (pv 6) (pg_sub (pv 2) (pv 5) set_list))))))) (pss_one (ps_if (pt_cmpR op_gt (pv 3) pe_int (nomark _)) (pss_one (ps_set (i := 2) sc_some_order.nd rfl (.inl rfl) (pe_call (ok_order T) (hr.mono (by first | decide | exact Nat.le_refl _)) (by rfl) T.g_order T.F_order.kp T.b_order .nil pass0 (pa_cons (pv 0) (pa_cons (pv 1) pa_nil))))) pss_nil)))))))
      (pss_one (ps_ret (pv 2)))))), ?_⟩
    have rg : RgOk 0 (n : Int) := RgOk.of_le (by omega) (by omega) (by omega) (by omega)
    refine ⟨_, rfl, (n : Int), rfl, rg, fun l nl => ?_⟩
    have k1 := same_new (o := .lst (rgV 0 (n : Int))) nl
    have nla := S.ne nl
    have hl : (upd H l (.lst (rgV 0 (n : Int)))) l = some (.lst (natV (List.range n))) := by rw [upd_same, rg_nat]
    have S2 := S.new (o := .lst (rgV 0 (n : Int))) nl
    generalize upd H l (.lst (rgV 0 (n : Int))) = H2 at k1 hl S2 ⊢
    refine ⟨_, rfl, a, ca, 6, rfl, S2, by decide, fun d H1 d0 d1 B1 S1 => ?_⟩
    have B2 : But a H H1 := (But.same k1).trans B1
    have hl1 := B1 _ _ nla.1 hl
    have len (ps : List Nat) : (natV ps).length = ps.length := List.length_map ..
    refine ⟨fun σ H' => ∃ (p : Addr) (ps : List Nat) (y1 y2 y3 : Option V), σ = [some (.ref a), some (.int (n : Int)), some (.ref p), some (.int d), y1, y2, y3] ∧ ps.Perm (List.range n) ∧ But a H H' ∧ Sto H' a ca ∧ H p = none ∧ p ≠ a ∧ p ≠ ca ∧ H' p = some (.lst (natV ps)), ?_, ?_⟩
    · refine ⟨_, rfl, rfl, _, rfl, ite2 (fun _ => ?_) (fun _ => ?_)⟩
      · refine ⟨_, rfl, .inl ⟨rfl, _, .inl (.inl hl1)⟩, l, _, rfl, rfl, hl1, ?_⟩
        refine ⟨l, (List.range n).reverse, _, _, _, rfl, List.reverse_perm _, (But.refl H).grown nl B2 hl1, S1.put nla, nl, nla.1, nla.2, ?_⟩
        rw [upd_same]
        unfold natV
        rw [List.map_reverse]
      refine ⟨_, rfl, rfl, _, rfl, ite2 (fun _ => ?_) (fun g1 => ?_)⟩
      · refine ⟨_, rfl, 1, rfl, l, _, rfl, .inl (.inl hl1), fun u nu => ?_⟩
        have k2 := same_new (o := .lst (cutV (natV (List.range n)) (some 1) none)) nu
        have hu : (upd H1 u (.lst (cutV (natV (List.range n)) (some 1) none))) u = some (.lst (cutV (natV (List.range n)) (some 1) none)) := upd_same
        have S3 := S1.new (o := .lst (cutV (natV (List.range n)) (some 1) none)) nu
        generalize upd H1 u (.lst (cutV (natV (List.range n)) (some 1) none)) = G1 at k2 hu S3 ⊢
        refine ⟨_, rfl, 1, rfl, l, _, rfl, .inl (.inl (k2 _ _ hl1)), fun v nv => ?_⟩
        have k3 := same_new (o := .lst (cutV (natV (List.range n)) none (some 1))) nv
        have hv : (upd G1 v (.lst (cutV (natV (List.range n)) none (some 1)))) v = some (.lst (cutV (natV (List.range n)) none (some 1))) := upd_same
        have S4 := S3.new (o := .lst (cutV (natV (List.range n)) none (some 1))) nv
        generalize upd G1 v (.lst (cutV (natV (List.range n)) none (some 1))) = G2 at k3 hv S4 ⊢
        have c1 : cutV (natV (List.range n)) (some 1) none = natV ((List.range n).drop 1) := by
          rw [show (1 : Int) = ((1 : Nat) : Int) from rfl, cut_drop_all]
          exact List.map_drop.symm
        have c2 : cutV (natV (List.range n)) none (some 1) = natV ((List.range n).take 1) := by
          rw [show (1 : Int) = ((1 : Nat) : Int) from rfl, cut_take_all]
          exact List.map_take.symm
        have hu2 := k3 _ _ hu
        rw [c1] at hu2
        rw [c2] at hv
        refine ⟨u, v, _, _, rfl, rfl, hu2, hv, ?_, fun p np => ?_⟩
        · rw [len, len, List.length_drop, List.length_take, List.length_range]
          exact Nat.le_trans (by omega : _ ≤ 1001) (by decide)
        have k4 := same_new (o := .lst (natV ((List.range n).drop 1) ++ natV ((List.range n).take 1))) np
        have npa := S4.ne np
        have B5 := B2.trans (But.same ((k2.trans k3).trans k4))
        refine ⟨p, (List.range n).drop 1 ++ (List.range n).take 1, _, _, _, rfl, ?_, B5, S4.new np, (B2.trans (But.same (k2.trans k3))).free np npa.1, npa.1, npa.2, ?_⟩
        · exact List.perm_append_comm.trans (by rw [List.take_append_drop])
        · rw [upd_same]
          unfold natV
          rw [List.map_append]
      have stay : ∃ (p : Addr) (ps : List Nat) (y1 y2 y3 : Option V), [some (V.ref a), some (V.int (n : Int)), some (V.ref l), some (V.int d), none, none, none] = [some (V.ref a), some (V.int (n : Int)), some (V.ref p), some (V.int d), y1, y2, y3] ∧ ps.Perm (List.range n) ∧ But a H H1 ∧ Sto H1 a ca ∧ H p = none ∧ p ≠ a ∧ p ≠ ca ∧ H1 p = some (.lst (natV ps)) :=
        ⟨l, _, _, _, _, rfl, .refl _, B2, S1, nl, nla.1, nla.2, hl1⟩
      refine ⟨_, rfl, rfl, _, rfl, ?_⟩
      by_cases g2 : d = 2
      · subst g2
        refine iteC (by simp) ⟨_, rfl, _, _, rfl, rfl, _, rfl, ite2 (fun g3 => ?_) (fun g3 => ?_)⟩
        · have n0 : 0 < n := by
            have := of_decide_eq_true g3
            omega
          refine ⟨_, rfl, _, rfl, a, ca, n, rfl, S1, by omega, fun x H3 x0 x1 B3 S3 => ?_⟩
          refine ⟨_, rfl, _, rfl, a, ca, n, rfl, S3, by omega, fun y H4 y0 y1 B4 S4 => ?_⟩
          have hl4 := B4 _ _ nla.1 (B3 _ _ nla.1 hl1)
          obtain ⟨i, rfl⟩ := Int.eq_ofNat_of_zero_le x0
          obtain ⟨j, rfl⟩ := Int.eq_ofNat_of_zero_le y0
          have li : i < (List.range n).length := by rw [List.length_range]; omega
          have lj : j < (List.range n).length := by rw [List.length_range]; omega
          have ei : (natV (List.range n))[i]? = some (.int (((List.range n)[i] : Nat) : Int)) := by
            unfold natV
            rw [List.getElem?_map, List.getElem?_eq_getElem li]
            rfl
          have ej : (natV (List.range n))[j]? = some (.int (((List.range n)[j] : Nat) : Int)) := by
            unfold natV
            rw [List.getElem?_map, List.getElem?_eq_getElem lj]
            rfl
          have st (ps : List Nat) (k v : Nat) : (natV ps).set k (.int (v : Int)) = natV (ps.set k v) := by
            unfold natV
            rw [List.map_set]
          refine ⟨_, rfl, _, rfl, _, _, _, _, rfl, rfl, .inl (.inl hl4), atI_nat ei, ?_⟩
          refine ⟨_, rfl, _, rfl, _, _, _, _, rfl, rfl, .inl (.inl hl4), atI_nat ej, ?_⟩
          refine ⟨_, rfl, _, rfl, _, _, _, i, rfl, rfl, hl4, ixN_at (by rw [len]; exact li), ?_⟩
          rw [st]
          have hl5 : (upd H4 l (.lst (natV ((List.range n).set i (List.range n)[j])))) l = some (.lst (natV ((List.range n).set i (List.range n)[j]))) := upd_same
          have S5 := S4.put (o := .lst (natV ((List.range n).set i (List.range n)[j]))) nla
          have B5 := (But.refl H).grown (o := .lst (natV ((List.range n).set i (List.range n)[j]))) nl ((B2.trans B3).trans B4) hl4
          generalize upd H4 l (.lst (natV ((List.range n).set i (List.range n)[j]))) = H5 at hl5 S5 B5 ⊢
          refine ⟨_, rfl, _, rfl, _, rfl, _, _, _, j, rfl, rfl, hl5, ixN_at (by rw [len, List.length_set]; exact lj), ?_⟩
          rw [st]
          exact ⟨l, _, _, _, _, rfl, List.set_set_perm li lj, (But.refl H).grown nl B5 hl5, S5.put nla, nl, nla.1, nla.2, upd_same⟩
        · exact ⟨_, rfl, _, _, rfl, rfl, _, rfl, iteN (by decide) stay⟩
      · refine iteN (by simp [g2]) ⟨_, rfl, _, _, rfl, rfl, _, rfl, ite2 (fun g3 => ?_) (fun g3 => stay)⟩
        refine ⟨_, rfl, _, rfl, a, ca, n, rfl, S1, hn, fun ps p H' pm B' S' np pa pc hp => ?_⟩
        exact ⟨p, ps, _, _, _, rfl, pm, B2.trans B', S', (B2.free np pa), pa, pc, hp⟩
    · rintro σ H' ⟨p, ps, y1, y2, y3, rfl, h1, h2, h3, h4, h5, h6, h7⟩
      exact ⟨_, rfl, q ps p H' h1 h2 h3 h4 h5 h6 h7⟩

def sp_store (K : PySem.W.Frag) : Sp := fun vs H Q _ => ∃ (a : Addr) (ns : List Int), vs = [.ref a] ∧ SqL K H a (ns.map V.int) ∧ ns.length ≤ 63 ∧
  ∀ (p ca : Addr) (H' : Hp), Same H H' → H p = none → Sto H' p ca → Q (.ref p) H'
theorem ok_store (T : Txt K mg base) : FnOk P w K mg base CX0 (0 + 1) T.f_store T.fd_store ["script"] (sp_store K) := by
  refine T.F_store.ok sc_store (fun vs H Q E h => ?_) (fun cdv A outer s H vs Q E hr h => ?_)
  · obtain ⟨a, ns, rfl, _⟩ := h
    rfl
  · obtain ⟨a, ns, rfl, hS, hl, q⟩ := h
    refine ⟨_, (pss_cons (ps_set (i := 1) sc_store.nd rfl (.inl rfl) pe_int)
      (pss_cons (ps_for PassesOwn.never rfl (pi_list (pv 0)) (pg_name (i := 2) sc_store.nd rfl (.inl rfl)) (pss_one (ps_set (i := 1) sc_store.nd rfl (.inl rfl) (pe_op op_mod (pe_callTy call_int1 (by rfl) T.z_int (by decide +kernel) (pa_cons (pe_op op_add (pe_op op_add (pe_op op_mul (pv 1) pe_int) (pe_op op_mod (pe_callTy call_int1 (by rfl) T.z_int (by decide +kernel) (pa_cons (pv 2) pa_nil)) pe_int)) pe_int) pa_nil)) pe_int))))
      (pss_one (ps_ret (pe_lst (pa_cons (pe_callTy call_list_of (by rfl) T.z_list (by decide +kernel) (pa_cons (pv 0) pa_nil)) (pa_cons pe_int (pa_cons pe_int (pa_cons pe_int (pa_cons (pv 1) pa_nil)))))))))), ?_⟩
    -- seed = 17, the loop
    refine ⟨.ref a, rfl, a, rfl, ⟨_, hS⟩, for_list (K := K) (a := a) (xs := ns.map V.int) (fun i σ H' => ∃ (z : Int) (y : Option V), σ = [some (.ref a), some (.int z), y] ∧ H' = H)
      ⟨17, none, rfl, rfl⟩ (fun i σ H' _ ⟨_, _, _, e⟩ => by rw [e]; exact hS) ?_ ?_⟩
    · rintro i y σ H' hi ⟨z, y0, rfl, rfl⟩
      obtain ⟨n, hn, rfl⟩ : ∃ n, ns[i]? = some n ∧ y = V.int n := by
        rw [List.getElem?_map] at hi
        cases e : ns[i]? with
        | none =>
          rw [e] at hi
          cases hi
        | some n =>
          rw [e] at hi
          exact ⟨n, rfl, (Option.some.inj hi).symm⟩
      exact ⟨_, rfl, _, _, rfl, rfl, .inr ⟨by decide, by decide⟩, _, rfl, .inl ⟨_, rfl, _, _, rfl, rfl, (by show (0 : Int) < 1000003; decide), _, _, rfl, rfl, _, _, rfl, rfl, .inl ⟨_, rfl, _, _, rfl, rfl, (by show (0 : Int) < 2147483647; decide), _, _, rfl, rfl⟩⟩⟩
    · rintro σ H' ⟨z, y0, rfl, rfl⟩
      refine ⟨.ref a, rfl, a, _, rfl, .inl hS, fun c nc => ⟨_, rfl, by show 5 ≤ sizeLine; decide, fun p np => ?_⟩⟩
      have s1 : Same H' (upd H' c (.lst (ns.map V.int))) := same_new nc
      have s2 : Same (upd H' c (.lst (ns.map V.int))) (upd (upd H' c (.lst (ns.map V.int))) p (.lst [.ref c, .int 0, .int 0, .int 0, .int z])) := same_new np
      have ncp : c ≠ p := fun e => by
        rw [← e, upd_same] at np
        cases np
      refine q p c _ (s1.trans s2) (s1.free np) ⟨ns, 0, 0, 0, z, upd_same, ?_, Int.le_refl 0, ncp⟩
      rw [upd_ne ncp, upd_same]

theorem ok_law (T : Txt K mg base) : FnOk P w K mg base CX0 (17 + 1) T.f_law T.fd_law ["script"] (sp_law K) := by
  refine T.F_law.ok sc_law (fun vs H Q E h => ?_) (fun cdv A outer st H vs Q E hr h => ?_)
  · obtain ⟨a, ns, rfl, _⟩ := h
    rfl
  · obtain ⟨sc, ns, rfl, hS, hlen, good, q⟩ := h
    have s := st
    refine ⟨_, (pss_cons (ps_set (i := 1) sc_law.nd rfl (.inl rfl) (pe_call (ok_store T) (hr.mono (by first | decide | exact Nat.le_refl _)) (by rfl) T.g_store T.F_store.kp T.b_store .nil pass0 (pa_cons (pv 0) pa_nil)))
      (pss_cons (ps_set (i := 2) sc_law.nd rfl (.inl rfl) (pe_call (ok_letters T) (hr.mono (by first | decide | exact Nat.le_refl _)) (by rfl) T.g_letters T.F_letters.kp T.b_letters .nil pass0 (pa_cons (pv 1) (pa_cons pe_int pa_nil))))
      (pss_cons (ps_set (i := 3) sc_law.nd rfl (.inl rfl) (pe_call (ok_machine T) (hr.mono (by first | decide | exact Nat.le_refl _)) (by rfl) T.g_machine T.F_machine.kp T.b_machine .nil pass0 (pa_cons (pv 1) (pa_cons (pv 2) (pa_cons (pe_call (ok_letters T) (hr.mono (by first | decide | exact Nat.le_refl _)) (by rfl) T.g_letters T.F_letters.kp T.b_letters .nil pass0 (pa_cons (pv 1) (pa_cons pe_int pa_nil))) (pa_cons (pe_call (ok_pick T) (hr.mono (by first | decide | exact Nat.le_refl _)) (by rfl) T.g_pick T.F_pick.kp T.b_pick .nil pass0 (pa_cons (pv 1) (pa_cons (pe_lst (pa_cons pe_int (pa_cons pe_int (pa_cons pe_int (pa_cons pe_int (pa_cons pe_int (pa_cons pe_int (pa_cons pe_int (pa_cons pe_int pa_nil))))))))) pa_nil))) pa_nil))))))
      (pss_cons (ps_set (i := 4) sc_law.nd rfl (.inl rfl) (pe_ix ix_tup (pv 3) pe_int (fun _ _ => rfl)))
      (pss_cons (ps_set (i := 5) sc_law.nd rfl (.inl rfl) (pe_call (ok_machine_of T) (hr.mono (by first | decide | exact Nat.le_refl _)) (by rfl) T.g_machine_of T.F_machine_of.kp T.b_machine_of .nil pass0 (pa_cons (pv 3) pa_nil)))
      (pss_cons (ps_set (i := 6) sc_law.nd rfl (.inr rfl) (pe_lst (pa_cons (pe_call (ok_some_order T) (hr.mono (by first | decide | exact Nat.le_refl _)) (by rfl) T.g_some_order T.F_some_order.kp T.b_some_order .nil pass0 (pa_cons (pv 1) (pa_cons (pv 4) pa_nil))) (pa_cons (pe_call (ok_some_order T) (hr.mono (by first | decide | exact Nat.le_refl _)) (by rfl) T.g_some_order T.F_some_order.kp T.b_some_order .nil pass0 (pa_cons (pv 1) (pa_cons (pv 4) pa_nil))) pa_nil))))
      (C8.pss_cut (ps_for PassesOwn.never rfl (pi_list (pv 6)) (pg_name (i := 7) sc_law.nd rfl (.inl rfl)) (pss_one (ps_if (PW.pt (pw_or (pt_not (pt_val (pe_call (ok_refuses T) (hr.mono (by first | decide | exact Nat.le_refl _)) (by rfl) T.g_refuses T.F_refuses.kp T.b_refuses .nil pass0 (pa_cons (pv 1) (pa_cons (pv 5) (pa_cons (pv 4) pa_nil)))))) (pw_or1 (pt_not (pt_val (pe_call (ok_moves_all T) (hr.mono (by first | decide | exact Nat.le_refl _)) (by rfl) T.g_moves_all T.F_moves_all.kp T.b_moves_all .nil pass0 (pa_cons (pv 5) (pa_cons (pv 3) (pa_cons (pv 7) pa_nil))))))))) (pss_one (ps_ret pe_bl)) pss_nil)))
      (C8.pss_cut (ps_for PassesOwn.never rfl (pi_range1 (by rfl) T.z_range (pa_cons pe_int pa_nil)) (pg_name (i := 8) sc_law.nd rfl (.inl rfl)) (pss_one (ps_if (pt_not (pt_val (pe_call (ok_refuses T) (hr.mono (by first | decide | exact Nat.le_refl _)) (by rfl) T.g_refuses T.F_refuses.kp T.b_refuses .nil pass0 (pa_cons (pv 1) (pa_cons (pv 5) (pa_cons (pv 4) pa_nil)))))) (pss_one (ps_ret pe_bl)) pss_nil)))
      (pss_cons (ps_setLc (i := 9) (own := [("k", 8)]) (g := gName 8) rfl sc_law.nd rfl rfl (sw_true rfl rfl rfl (by decide +kernel)) (pi_range1 (by rfl) T.z_range (pa_cons (pv 4) pa_nil)) (blkOk_by (N := ["script", "store", "read", "parts", "size", "machine", "orders", "order", "k", "both", "twice"]) (sc := defScope s_law) (by decide +kernel)) (fun _ _ _ _ _ => pg_name (i := 8) sc_law.nd rfl (Or.inl rfl)) (fun _ _ _ _ _ => pts_nil) (fun _ _ _ _ _ => (pe_ix (ix_listK K rfl) (pe_ix (ix_listK K rfl) (pv 6) pe_int (fun _ _ => rfl)) (pe_ix (ix_listK K rfl) (pe_ix (ix_listK K rfl) (pv 6) pe_int (fun _ _ => rfl)) (pv 8) (fun _ _ => rfl)) (fun _ _ => rfl))))
      (pss_cons (ps_set (i := 10) sc_law.nd rfl (.inl rfl) (pe_call (ok_renumber T) (hr.mono (by first | decide | exact Nat.le_refl _)) (by rfl) T.g_renumber T.F_renumber.kp T.b_renumber .nil passL (pa_cons (pe_call (ok_renumber T) (hr.mono (by first | decide | exact Nat.le_refl _)) (by rfl) T.g_renumber T.F_renumber.kp T.b_renumber .nil passL (pa_cons (pv 5) (pa_cons (pe_ix ix_list (pv 6) pe_int (fun _ _ => rfl)) pa_nil))) (pa_cons (pe_ix ix_list (pv 6) pe_int (fun _ _ => rfl)) pa_nil))))
      (pss_cons (ps_if (pt_not (pt_val (pe_call (ok_same T) (hr.mono (by first | decide | exact Nat.le_refl _)) (by rfl) T.g_same T.F_same.kp T.b_same .nil pass0 (pa_cons (pe_call (ok_parts_of T) (hr.mono (by first | decide | exact Nat.le_refl _)) (by rfl) T.g_parts_of T.F_parts_of.kp T.b_parts_of .nil pass0 (pa_cons (pv 10) pa_nil)) (pa_cons (pe_call (ok_tidy T) (hr.mono (by first | decide | exact Nat.le_refl _)) (by rfl) T.g_tidy T.F_tidy.kp T.b_tidy .nil pass0 (pa_cons (pe_call (ok_renamed T) (hr.mono (by first | decide | exact Nat.le_refl _)) (by rfl) T.g_renamed T.F_renamed.kp T.b_renamed .nil pass0 (pa_cons (pv 3) (pa_cons (pv 9) pa_nil))) pa_nil)) pa_nil))))) (pss_one (ps_ret pe_bl)) pss_nil)
      (pss_one (ps_ret (pe_and (pe_call (ok_moves_all T) (hr.mono (by first | decide | exact Nat.le_refl _)) (by rfl) T.g_moves_all T.F_moves_all.kp T.b_moves_all .nil pass0 (pa_cons (pv 5) (pa_cons (pv 3) (pa_cons (pv 9) pa_nil)))) (pe_one (pe_call (ok_moves_all T) (hr.mono (by first | decide | exact Nat.le_refl _)) (by rfl) T.g_moves_all T.F_moves_all.kp T.b_moves_all .nil pass0 (pa_cons (pv 10) (pa_cons (pe_call (ok_parts_of T) (hr.mono (by first | decide | exact Nat.le_refl _)) (by rfl) T.g_parts_of T.F_parts_of.kp T.b_parts_of .nil pass0 (pa_cons (pv 10) pa_nil)) (pa_cons (pe_ix ix_list (pv 6) pe_int (fun _ _ => rfl)) pa_nil))))))))))))))))))), ?_⟩
    clear s
    refine ⟨_, rfl, sc, ns, rfl, hS, hlen, fun a ca H1 s1 na S1 => ?_⟩
    have g1 := s1.good good
    refine ⟨_, rfl, a, ca, 3, rfl, S1, fun r H2 ar B2 S2 => ?_⟩
    refine ⟨_, rfl, _, rfl, _, rfl, a, ca, 3, rfl, S2, fun z H3 az B3 S3 => ?_⟩
    refine ⟨_, rfl, by show 8 ≤ sizeLine; decide, fun pl npl => ?_⟩
    have k3 := same_new (o := .lst [.int 1, .int 2, .int 3, .int 4, .int 5, .int 6, .int 8, .int 64]) npl
    have hpl : (upd H3 pl (.lst [.int 1, .int 2, .int 3, .int 4, .int 5, .int 6, .int 8, .int 64])) pl = some (.lst [.int 1, .int 2, .int 3, .int 4, .int 5, .int 6, .int 8, .int 64]) := upd_same
    have S3' := S3.new (o := .lst [.int 1, .int 2, .int 3, .int 4, .int 5, .int 6, .int 8, .int 64]) npl
    have xpl := S3.ne npl
    generalize upd H3 pl (.lst [.int 1, .int 2, .int 3, .int 4, .int 5, .int 6, .int 8, .int 64]) = H3' at k3 hpl S3' ⊢
    refine ⟨a, ca, S3', .inr ⟨pl, _, rfl, xpl.1, hpl, by show 0 < 8; decide, by show 8 ≤ 1000000; decide, fun x H4 mx B4 S4 => ?_⟩⟩
    obtain ⟨lim, rfl, lim1, lim64⟩ : ∃ lim : Int, x = .int lim ∧ 1 ≤ lim ∧ lim ≤ 64 := by
      simp only [List.mem_cons, List.not_mem_nil, or_false] at mx
      rcases mx with rfl | rfl | rfl | rfl | rfl | rfl | rfl | rfl <;> exact ⟨_, rfl, by decide, by decide⟩
    have g4 := B4.good (k3.good (B3.good (B2.good g1)))
    refine ⟨a, ca, r, z, lim, rfl, S4, ar, az, lim1, lim64, fun p b c e n H5 n0 nl r1 r2 r3 d1 d2 d3 B5 S5 np pa pca hp => ?_⟩
    obtain ⟨n, be, ae, ee, bx, ax, ex, rfl, D5⟩ := pt_drawn n0 (by omega) ar az r1 r2 r3 (by decide) (by decide) (by decide) hp pa
    clear r1 r2 r3
    have g5 := B5.good g4
    have g := D5.g
    have n64 := g.n64
    obtain ⟨lb, la, le⟩ := D5.lens
    clear B2 B3 B4 B5 k3 g4 g1 S1 S2 S3 S3' S4 hpl np hp
    refine ⟨_, rfl, _, _, _, _, rfl, rfl, .inl (.inl D5.hp), rfl, ?_⟩
    refine ⟨_, rfl, p, r, z, n, be, ae, ee, b, c, e, bx, ax, ex, rfl, .inr (.inl (.inl D5.hp)), D5.hb, D5.hc, D5.he, g, D5.lb, D5.la, D5.le, D5.eb, D5.ea, D5.ee', g5, fun m H6 s6 nm Mm Y => ?_⟩
    obtain ⟨dx, u, v, w, ux, vx, wx, bd, ad, ed, M6, sb, sa, se, _, _, _, y1, y2, y3⟩ := Mm.places Y
    have ua : u ≠ a := fun e => S5.some.1 (by rw [← e]; exact y1)
    have va : v ≠ a := fun e => S5.some.1 (by rw [← e]; exact y2)
    have wa : w ≠ a := fun e => S5.some.1 (by rw [← e]; exact y3)
    have D6 := D5.same s6
    have S6 := S5.same s6
    have g6 := s6.good g5
    have gd := g.told sb sa se
    have sbl := sb.l4
    have sal := sa.l4
    have sel := se.l4
    clear Mm Y y1 y2 y3 D5 S5 g5
    refine ⟨_, rfl, _, rfl, a, ca, n, rfl, S6, by omega, fun ps o1 H7 pm1 B7 S7 _ o1a _ ho1 => ?_⟩
    refine ⟨_, rfl, _, rfl, a, ca, n, rfl, S7, by omega, fun qs o2 H8 pm2 B8 S8 _ o2a _ ho2 => ?_⟩
    have e1 (l : List Nat) : natV l = (l.map fun (i : Nat) => (i : Int)).map V.int := by
      unfold natV
      rw [List.map_map]
      rfl
    rw [e1] at ho1 ho2
    have od1 := ord_perm pm1
    have od2 := ord_perm pm2
    generalize (ps.map fun (i : Nat) => (i : Int)) = os1 at ho1 od1
    generalize (qs.map fun (i : Nat) => (i : Int)) = os2 at ho2 od2
    clear pm1 pm2 e1
    have ho1 := B8 _ _ o1a ho1
    have D8 := (D6.but B7 S6).but B8 S7
    have M8 := (M6.but B7 S6 ua va wa).but B8 S7 ua va wa
    have g8 := B8.good (B7.good g6)
    clear B7 B8 S6 S7 D6 M6 g6
    refine ⟨by show 2 ≤ sizeLine; decide, fun L nL => ?_⟩
    have k9 := same_new (o := .lst [.ref o1, .ref o2]) nL
    have hL : (upd H8 L (.lst [.ref o1, .ref o2])) L = some (.lst [.ref o1, .ref o2]) := upd_same
    have S9 := S8.new (o := .lst [.ref o1, .ref o2]) nL
    have La := (S8.ne nL).1
    generalize upd H8 L (.lst [.ref o1, .ref o2]) = H9 at k9 hL S9 ⊢
    have D9 := D8.same k9
    have M9 := M8.same k9
    have g9 := k9.good g8
    have ho1 := k9 _ _ ho1
    have ho2 := k9 _ _ ho2
    clear S8 D8 M8 g8 nL k9
    refine ⟨fun σ' H' => (∃ y7, σ' = [some (.ref sc), some (.ref a), some (.str r), some (.ref p), some (.int (n : Int)), some (.ref m), some (.ref L), y7, none, none, none]) ∧ But a H9 H' ∧ Sto H' a ca, ?_, ?_⟩
    · refine ⟨_, rfl, L, rfl, ⟨_, .inl (.inl hL)⟩, ?_⟩
      refine for_list (K := K) (a := L) (xs := [.ref o1, .ref o2]) (fun i σ H' => (∃ y7, σ = [some (.ref sc), some (.ref a), some (.str r), some (.ref p), some (.int (n : Int)), some (.ref m), some (.ref L), y7, none, none, none]) ∧ But a H9 H' ∧ Sto H' a ca) ⟨⟨_, rfl⟩, .refl _, S9⟩ (fun i σ H' _ h => .inl (.inl (h.2.1 _ _ La hL))) ?_ (fun σ H' h => h)
      rintro i x σ H' hx ⟨⟨y7, rfl⟩, B, S⟩
      obtain ⟨o, os, rfl, oa, ho, od⟩ : ∃ o os, x = .ref o ∧ o ≠ a ∧ H9 o = some (.lst (os.map V.int)) ∧ IsOrd os n := by
        match i, hx with
        | 0, rfl => exact ⟨o1, os1, rfl, o1a, ho1, od1⟩
        | 1, rfl => exact ⟨o2, os2, rfl, o2a, ho2, od2⟩
      refine ⟨_, rfl, _, rfl, _, rfl, a, ca, m, r, z, n, dx, u, v, w, ux, vx, wx, bd, ad, ed, rfl, S, M9.but B S9 ua va wa, B.good g9, gd, sbl, sal, sel, ua, va, wa, fun H10 B10 S10 => ?_⟩
      have D10 := (D9.but B S9).but B10 S
      refine ⟨_, rfl, iteF ⟨_, rfl, _, rfl, _, rfl, m, p, o, r, z, n, os, dx, u, v, w, ux, vx, wx, bd, ad, ed, b, c, e, bx, ax, ex, be, ae, ee, rfl, (M9.but B S9 ua va wa).but B10 S ua va wa, B10.good (B.good g9), g, sb, sa, se, D10.hp, D10.hb, D10.hc, D10.he, D10.eb, D10.ea, D10.ee', lb, la, le, B10 _ _ oa (B _ _ oa ho), od, fun H11 s11 => ⟨_, rfl, iteF ⟨⟨_, rfl⟩, (B.trans B10).trans (But.same s11), S10.same s11⟩⟩⟩⟩
    rintro σ' H10 ⟨⟨y7, rfl⟩, B10, S10⟩
    have M10 := M9.but B10 S9 ua va wa
    have g10 := B10.good g9
    refine ⟨fun σ' H' => (∃ y8, σ' = [some (.ref sc), some (.ref a), some (.str r), some (.ref p), some (.int (n : Int)), some (.ref m), some (.ref L), y7, y8, none, none]) ∧ But a H10 H' ∧ Sto H' a ca, ?_, ?_⟩
    · refine ⟨4, rfl, by decide, by decide, for_range (lo := 0) (n := 4) (fun i σ H' => (∃ y8, σ = [some (.ref sc), some (.ref a), some (.str r), some (.ref p), some (.int (n : Int)), some (.ref m), some (.ref L), y7, y8, none, none]) ∧ But a H10 H' ∧ Sto H' a ca) ⟨⟨_, rfl⟩, .refl _, S10⟩ ?_ (fun σ H' h => h)⟩
      rintro i σ H' hi ⟨⟨y8, rfl⟩, B, S⟩
      exact ⟨_, rfl, _, rfl, _, rfl, a, ca, m, r, z, n, dx, u, v, w, ux, vx, wx, bd, ad, ed, rfl, S, M10.but B S10 ua va wa, B.good g10, gd, sbl, sal, sel, ua, va, wa, fun H11 B11 S11 => ⟨_, rfl, iteF ⟨⟨_, rfl⟩, B.trans B11, S11⟩⟩⟩
    rintro σ' H11 ⟨⟨y8, rfl⟩, B11, S11⟩
    have B := B10.trans B11
    have D11 := D9.but B S9
    have M11 := M9.but B S9 ua va wa
    have g11 := B.good g9
    have hL := B _ _ La hL
    have ho1 := B _ _ o1a ho1
    have ho2 := B _ _ o2a ho2
    clear B B10 B11 M10 g10 S10 M9 D9 S9 g9
    have lc1 : (compO os1 os2 n).length = n := by unfold compO; rw [List.length_map, List.length_range]
    have odc := od1.comp od2
    refine ⟨_, rfl, (n : Int), rfl, by omega, by omega, fun Z nZ => ?_⟩
    refine lc_range (lo := 0) (n := (n : Int).toNat) (fun i H' => Same H11 H' ∧ H' Z = some (.lst (((compO os1 os2 n).take i).map V.int))) ⟨same_new nZ, upd_same⟩ ?_ ?_
    · rintro i H' hi ⟨sg, hZg⟩
      have hi' : i < n := hi
      have h1 := od1.at_ (i := (i : Int)) (by omega) (by omega)
      have a1 := mvI_at (os := os1) (i := 0 + (i : Int)) (by omega) (by rw [od1.len]; omega)
      rw [Int.zero_add] at a1
      have a2 := mvI_at (os := os2) h1.1 (by rw [od2.len]; omega)
      refine ⟨rfl, _, rfl, _, _, _, _, rfl, rfl, .inl (.inl (sg _ _ hL)), rfl, _, rfl, _, _, _, _, rfl, rfl, .inl (.inl (sg _ _ hL)), rfl, _, rfl, _, _, _, _, rfl, rfl, .inl (.inl (sg _ _ ho1)), by rw [Int.zero_add]; exact a1, _, _, _, _, rfl, rfl, .inl (.inl (sg _ _ ho2)), a2, _, hZg, ?_, (Same.refl H11).grown nZ sg hZg, ?_⟩
      · rw [List.length_map, List.length_take]
        exact Nat.lt_of_le_of_lt (by omega : _ ≤ 1000) (by decide)
      · have e1 : (compO os1 os2 n)[i]? = some (mvI os2 (mvI os1 (i : Int))) := by
          unfold compO
          rw [List.getElem?_map, List.getElem?_range hi']
          rfl
        rw [upd_same, List.take_add_one, e1, List.map_append]
        rfl
    rintro H12 ⟨s12, hZ⟩
    rw [show (n : Int).toNat = n from Int.toNat_natCast n, List.take_of_length_le (by omega)] at hZ
    have D12 := D11.same s12
    have M12 := M11.same s12
    have g12 := s12.good g11
    have hL := s12 _ _ hL
    have ho1 := s12 _ _ ho1
    have ho2 := s12 _ _ ho2
    clear D11 M11 g11 s12 nZ S11
    refine ⟨_, rfl, _, rfl, _, _, _, _, rfl, rfl, .inl (.inl hL), rfl, m, _, r, z, n, dx, u, v, w, ux, vx, wx, bd, ad, ed, rfl, M12, g12, gd, sbl, sal, sel, .inl ⟨o1, os1, rfl, ho1, od1, fun m1 H13 s13 nm1 Mm1 Y1 => ?_⟩⟩
    obtain ⟨dx1, u1, v1, w1, ux1, vx1, wx1, bd1, ad1, ed1, M13, sb1, sa1, se1, _⟩ := Mm1.places Y1
    have gd1 := (gd.moved od1).told sb1 sa1 se1
    refine ⟨_, rfl, _, _, _, _, rfl, rfl, .inl (.inl (s13 _ _ hL)), rfl, m1, _, r, z, n, dx1, u1, v1, w1, ux1, vx1, wx1, bd1, ad1, ed1, rfl, M13, s13.good g12, gd1, sb1.l4, sa1.l4, se1.l4, .inl ⟨o2, os2, rfl, s13 _ _ ho2, od2, fun m2 H14 s14 nm2 Mm2 Y2 => ?_⟩⟩
    obtain ⟨dx2, u2, v2, w2, ux2, vx2, wx2, bd2, ad2, ed2, M14, sb2, sa2, se2, _⟩ := Mm2.places Y2
    have gd2 := (gd1.moved od2).told sb2 sa2 se2
    have s24 := s13.trans s14
    have D14 := D12.same s24
    have lbx := D14.lb
    have lax := D14.la
    have lex := D14.le
    refine ⟨_, rfl, m2, r, z, n, dx2, u2, v2, w2, ux2, vx2, wx2, bd2, ad2, ed2, rfl, M14, fun t l1 l2 l3 H15 s15 _ _ ht hl1 hl2 hl3 => ?_⟩
    have D15 := D14.same s15
    have gc := g.moved odc
    refine ⟨_, rfl, _, rfl, p, Z, compO os1 os2 n, r, z, n, be, ae, ee, b, c, e, bx, ax, ex, rfl, .inr (.inl (.inl D15.hp)), s15 _ _ (s24 _ _ hZ), D15.hb, D15.hc, D15.he, by omega, by omega, by omega, D15.eb, D15.ea, D15.ee', fun x mx => ?_, fun x mx => ?_, fun x mx => ?_, fun t5 b5 a5 e5 bx5 ax5 ex5 H16 s16 _ ht5 hb5 ha5 he5 eb5 ea5 ee5 => ?_⟩
    · have := g.gb x mx
      exact ⟨this.1, by have := this.2.1; omega⟩
    · have := g.ga x mx
      exact ⟨this.1, by have := this.2.1; omega, this.2.2.2.2.2.2.1, by have := this.2.2.2.2.2.2.2; omega⟩
    · have := g.ge x mx
      exact ⟨this.1, by have := this.2.1; omega⟩
    have q1 := eb5.len
    have q2 := ea5.len
    have q3 := ee5.len
    rw [List.length_map] at q1 q2 q3
    refine ⟨t5, r, z, n, _, _, _, b5, a5, e5, bx5, ax5, ex5, rfl, .inr (.inl (.inl ht5)), g.ar, g.az, hb5, ha5, he5, by omega, by omega, by omega, eb5, ea5, ee5, fun x mx => ⟨(gc.gb x mx).2.2.1, by have := (gc.gb x mx).2.2.2; omega⟩, fun x mx => ⟨(gc.ga x mx).2.2.2.1, (gc.ga x mx).2.2.2.2.1, by have := (gc.ga x mx).2.2.2.2.2.1; omega⟩, fun x mx => ⟨(gc.ge x mx).2.2.1, by have := (gc.ge x mx).2.2.2; omega⟩, fun t6 b6 a6 e6 bx6 ax6 ex6 bd6 ad6 ed6 H17 s17 _ Td => ?_⟩
    obtain rfl : bd6 = bd2 := pw_unique plt_asym Td.pb sb2.pw fun y => (Td.mb y).trans (((sb2.mem y).trans (mem_map_inj sb1.mem y)).trans (by rw [IsOrd.mapP bd gd.gb]; exact mem_map_inj sb.mem y)).symm
    obtain rfl : ad6 = ad2 := pw_unique alt_asym Td.pa sa2.pw fun y => (Td.ma y).trans (((sa2.mem y).trans (mem_map_inj sa1.mem y)).trans (by rw [IsOrd.mapA ad gd.ga]; exact mem_map_inj sa.mem y)).symm
    obtain rfl : ed6 = ed2 := pw_unique plt_asym Td.pe se2.pw fun y => (Td.me y).trans (((se2.mem y).trans (mem_map_inj se1.mem y)).trans (by rw [IsOrd.mapP ed gd.ge]; exact mem_map_inj se.mem y)).symm
    have s57 := s16.trans s17
    have s47 := s15.trans s57
    have M17 := M14.same s47
    have w1' := sb2.l4
    have w2' := sa2.l4
    have w3' := se2.l4
    refine ⟨_, _, rfl, parts_samed (k := 6) (s57 _ _ ht) Td.tup (s57 _ _ hl1) (s57 _ _ hl2) (s57 _ _ hl3) Td.hb Td.ha Td.he M17.nb M17.na M17.ne Td.nb Td.na Td.ne (by omega) (by omega) (by omega), _, rfl, iteF ?_⟩
    have s27 := s24.trans s47
    have D17 := D12.same s27
    refine ⟨_, rfl, _, rfl, _, rfl, m, p, Z, r, z, n, compO os1 os2 n, dx, u, v, w, ux, vx, wx, bd, ad, ed, b, c, e, bx, ax, ex, be, ae, ee, rfl, M12.same s27, s27.good g12, g, sb, sa, se, D17.hp, D17.hb, D17.hc, D17.he, D17.eb, D17.ea, D17.ee', lb, la, le, s27 _ _ hZ, odc, fun H18 s18 => ?_⟩
    refine ⟨_, rfl, iteT ?_⟩
    have M18 := M17.same s18
    refine ⟨_, rfl, _, rfl, m2, r, z, n, dx2, u2, v2, w2, ux2, vx2, wx2, bd6, ad6, ed6, rfl, M18, fun t7 l4 l5 l6 H19 s19 _ _ ht7 hl4 hl5 hl6 => ?_⟩
    have M19 := M18.same s19
    have s29 := (s27.trans s18).trans s19
    exact ⟨_, rfl, _, _, _, _, rfl, rfl, .inl (.inl (s29 _ _ hL)), rfl, m2, t7, o1, r, z, n, os1, dx2, u2, v2, w2, ux2, vx2, wx2, bd6, ad6, ed6, l4, l5, l6, ux2, vx2, wx2, bd6, ad6, ed6, rfl, M19, s29.good g12, gd2, sb2.refl, sa2.refl, se2.refl, ht7, hl4, hl5, hl6, M19.nb, M19.na, M19.ne, w1', w2', w3', s29 _ _ ho1, od1, fun H20 _ => q H20⟩

end
theorem all_mk {l : PySem.W.OpenLaw} {w : World} {K : PySem.W.Frag} {h : Heap} {mg : Str → Option Value} {names : List Str} {fa f0 f1 f2 f3 f4 f5 f6 f7 f8 f9 f10 f11 f12 f13 f14 f15 f16 f17 f18 f19 f20 f21 f22 f23 f24 f25 f26 f27 f28 f29 f30 f31 f32 f33 f34 f35 f36 f37 f38 f39 f40 f41 f42 f43 f44 f45 f46 f47 f48 f49 f50 f51 : Addr} (X : K.In h) (G : h.Ns mainGlobals mg) (hfa : mg "law" = some (.ref fa)) (E : Empty names K mg h)
    {od0 an0 od1 an1 od2 an2 od3 an3 od4 an4 od5 an5 od6 an6 od7 an7 od8 an8 od9 an9 od10 an10 od11 an11 od12 an12 od13 an13 od14 an14 od15 an15 od16 an16 od17 an17 od18 an18 od19 an19 od20 an20 od21 an21 od22 an22 od23 an23 od24 an24 od25 an25 od26 an26 od27 an27 od28 an28 od29 an29 od30 an30 od31 an31 od32 an32 od33 an33 od34 an34 od35 an35 od36 an36 od37 an37 od38 an38 od39 an39 od40 an40 od41 an41 od42 an42 od43 an43 od44 an44 od45 an45 od46 an46 od47 an47 od48 an48 od49 an49 od50 an50 od51 an51 : Option Addr} {sl0 sl1 sl2 sl3 sl4 sl5 sl6 sl7 sl8 sl9 sl10 sl11 sl12 sl13 sl14 sl15 sl16 sl17 sl18 sl19 sl20 sl21 sl22 sl23 sl24 sl25 sl26 sl27 sl28 sl29 sl30 sl31 sl32 sl33 sl34 sl35 sl36 sl37 sl38 sl39 sl40 sl41 sl42 sl43 sl44 sl45 sl46 sl47 sl48 sl49 sl50 sl51 : Array (Option Value)} {oc0 kV0 dc0 pm0 ct0 cd0 oc1 kV1 dc1 pm1 ct1 cd1 oc2 kV2 dc2 pm2 ct2 cd2 oc3 kV3 dc3 pm3 ct3 oc4 kV4 dc4 pm4 ct4 cd4 oc5 kV5 dc5 pm5 ct5 oc6 kV6 dc6 pm6 ct6 cd6 oc7 kV7 dc7 pm7 ct7 cd7 oc8 kV8 dc8 pm8 ct8 cd8 oc9 kV9 dc9 pm9 ct9 cd9 oc10 kV10 dc10 pm10 ct10 cd10 oc11 kV11 dc11 pm11 ct11 cd11 oc12 kV12 dc12 pm12 ct12 cd12 oc13 kV13 dc13 pm13 ct13 cd13 oc14 kV14 dc14 pm14 ct14 cd14 oc15 kV15 dc15 pm15 ct15 cd15 oc16 kV16 dc16 pm16 ct16 cd16 oc17 kV17 dc17 pm17 ct17 cd17 oc18 kV18 dc18 pm18 ct18 cd18 oc19 kV19 dc19 pm19 ct19 cd19 oc20 kV20 dc20 pm20 ct20 cd20 oc21 kV21 dc21 pm21 ct21 cd21 oc22 kV22 dc22 pm22 ct22 cd22 oc23 kV23 dc23 pm23 ct23 cd23 oc24 kV24 dc24 pm24 ct24 cd24 oc25 kV25 dc25 pm25 ct25 cd25 oc26 kV26 dc26 pm26 ct26 cd26 oc27 kV27 dc27 pm27 ct27 cd27 oc28 kV28 dc28 pm28 ct28 cd28 oc29 kV29 dc29 pm29 ct29 cd29 oc30 kV30 dc30 pm30 ct30 cd30 oc31 kV31 dc31 pm31 ct31 cd31 oc32 kV32 dc32 pm32 ct32 cd32 oc33 kV33 dc33 pm33 ct33 cd33 oc34 kV34 dc34 pm34 ct34 cd34 oc35 kV35 dc35 pm35 ct35 cd35 oc36 kV36 dc36 pm36 ct36 cd36 oc37 kV37 dc37 pm37 ct37 cd37 oc38 kV38 dc38 pm38 ct38 cd38 oc39 kV39 dc39 pm39 ct39 cd39 oc40 kV40 dc40 pm40 ct40 cd40 oc41 kV41 dc41 pm41 ct41 cd41 oc42 kV42 dc42 pm42 ct42 cd42 oc43 kV43 dc43 pm43 ct43 cd43 oc44 kV44 dc44 pm44 ct44 cd44 oc45 kV45 dc45 pm45 ct45 cd45 oc46 kV46 dc46 pm46 ct46 cd46 oc47 kV47 dc47 pm47 ct47 cd47 oc48 kV48 dc48 pm48 ct48 cd48 oc49 kV49 dc49 pm49 ct49 cd49 oc50 kV50 dc50 pm50 ct50 oc51 kV51 dc51 pm51 ct51 cd51 : Value}
    {c3 P3 c5 P5 c50 P50 : Addr} {vd3 vd5 vd50 : Option Addr} {vl3 vl5 vl50 : Array (Option Value)} {vs3 vs5 vs50 : Array Value} {ve3 ve5 ve50 : Value}
    (a0 : PySem.W.nsIn K mainGlobals "is_whole" = some (some (.ref f0))) (l0 : K.lookup f0 = some ⟨oc0, od0, .func (PySem.W.fnOf "is_whole" "is_whole" (defArgs s_is_whole) (defBody s_is_whole) (defScope s_is_whole) .none kV0 dc0 pm0 an0 cd0 ct0), sl0⟩) (k0 : PySem.W.keepIn K (.ref f0) = true) (c_0 : PySem.W.codeIn K cd0 "is_whole" = true)
    (a1 : PySem.W.nsIn K mainGlobals "in_range" = some (some (.ref f1))) (l1 : K.lookup f1 = some ⟨oc1, od1, .func (PySem.W.fnOf "in_range" "in_range" (defArgs s_in_range) (defBody s_in_range) (defScope s_in_range) .none kV1 dc1 pm1 an1 cd1 ct1), sl1⟩) (k1 : PySem.W.keepIn K (.ref f1) = true) (c_1 : PySem.W.codeIn K cd1 "in_range" = true)
    (a2 : PySem.W.nsIn K mainGlobals "check_number" = some (some (.ref f2))) (l2 : K.lookup f2 = some ⟨oc2, od2, .func (PySem.W.fnOf "check_number" "check_number" (defArgs s_check_number) (defBody s_check_number) (defScope s_check_number) .none kV2 dc2 pm2 an2 cd2 ct2), sl2⟩) (k2 : PySem.W.keepIn K (.ref f2) = true) (c_2 : PySem.W.codeIn K cd2 "check_number" = true)
    (a3 : PySem.W.nsIn K mainGlobals "is_letters" = some (some (.ref f3))) (l3 : K.lookup f3 = some ⟨oc3, od3, .func (PySem.W.fnOf "is_letters" "is_letters" (defArgs s_is_letters) (defBody s_is_letters) (defScope s_is_letters) .none kV3 dc3 pm3 an3 (.ref c3) ct3), sl3⟩) (k3 : PySem.W.keepIn K (.ref f3) = true) (c_3 : PySem.W.codeIn K (.ref c3) "is_letters" = true)
    (r3 : K.lookup c3 = some ⟨ve3, vd3, .fields vs3, vl3⟩) (p3 : vs3[11]? = some (.ref P3)) (n3 : K.lookup P3 = none)
    (h3 : PySem.W.codeHdIn K c3 P3 = true) (y3 : Str.ofString "is_letters" ∈ names)
    (a4 : PySem.W.nsIn K mainGlobals "is_letter" = some (some (.ref f4))) (l4 : K.lookup f4 = some ⟨oc4, od4, .func (PySem.W.fnOf "is_letter" "is_letter" (defArgs s_is_letter) (defBody s_is_letter) (defScope s_is_letter) .none kV4 dc4 pm4 an4 cd4 ct4), sl4⟩) (k4 : PySem.W.keepIn K (.ref f4) = true) (c_4 : PySem.W.codeIn K cd4 "is_letter" = true)
    (a5 : PySem.W.nsIn K mainGlobals "is_word" = some (some (.ref f5))) (l5 : K.lookup f5 = some ⟨oc5, od5, .func (PySem.W.fnOf "is_word" "is_word" (defArgs s_is_word) (defBody s_is_word) (defScope s_is_word) .none kV5 dc5 pm5 an5 (.ref c5) ct5), sl5⟩) (k5 : PySem.W.keepIn K (.ref f5) = true) (c_5 : PySem.W.codeIn K (.ref c5) "is_word" = true)
    (r5 : K.lookup c5 = some ⟨ve5, vd5, .fields vs5, vl5⟩) (p5 : vs5[11]? = some (.ref P5)) (n5 : K.lookup P5 = none)
    (h5 : PySem.W.codeHdIn K c5 P5 = true) (y5 : Str.ofString "is_word" ∈ names)
    (a6 : PySem.W.nsIn K mainGlobals "is_word_up_to" = some (some (.ref f6))) (l6 : K.lookup f6 = some ⟨oc6, od6, .func (PySem.W.fnOf "is_word_up_to" "is_word_up_to" (defArgs s_is_word_up_to) (defBody s_is_word_up_to) (defScope s_is_word_up_to) .none kV6 dc6 pm6 an6 cd6 ct6), sl6⟩) (k6 : PySem.W.keepIn K (.ref f6) = true) (c_6 : PySem.W.codeIn K cd6 "is_word_up_to" = true)
    (a7 : PySem.W.nsIn K mainGlobals "check_letters" = some (some (.ref f7))) (l7 : K.lookup f7 = some ⟨oc7, od7, .func (PySem.W.fnOf "check_letters" "check_letters" (defArgs s_check_letters) (defBody s_check_letters) (defScope s_check_letters) .none kV7 dc7 pm7 an7 cd7 ct7), sl7⟩) (k7 : PySem.W.keepIn K (.ref f7) = true) (c_7 : PySem.W.codeIn K cd7 "check_letters" = true)
    (a8 : PySem.W.nsIn K mainGlobals "word_key" = some (some (.ref f8))) (l8 : K.lookup f8 = some ⟨oc8, od8, .func (PySem.W.fnOf "word_key" "word_key" (defArgs s_word_key) (defBody s_word_key) (defScope s_word_key) .none kV8 dc8 pm8 an8 cd8 ct8), sl8⟩) (k8 : PySem.W.keepIn K (.ref f8) = true) (c_8 : PySem.W.codeIn K cd8 "word_key" = true)
    (a9 : PySem.W.nsIn K mainGlobals "show_word" = some (some (.ref f9))) (l9 : K.lookup f9 = some ⟨oc9, od9, .func (PySem.W.fnOf "show_word" "show_word" (defArgs s_show_word) (defBody s_show_word) (defScope s_show_word) .none kV9 dc9 pm9 an9 cd9 ct9), sl9⟩) (k9 : PySem.W.keepIn K (.ref f9) = true) (c_9 : PySem.W.codeIn K cd9 "show_word" = true)
    (a10 : PySem.W.nsIn K mainGlobals "is_pair" = some (some (.ref f10))) (l10 : K.lookup f10 = some ⟨oc10, od10, .func (PySem.W.fnOf "is_pair" "is_pair" (defArgs s_is_pair) (defBody s_is_pair) (defScope s_is_pair) .none kV10 dc10 pm10 an10 cd10 ct10), sl10⟩) (k10 : PySem.W.keepIn K (.ref f10) = true) (c_10 : PySem.W.codeIn K cd10 "is_pair" = true)
    (a11 : PySem.W.nsIn K mainGlobals "is_arc" = some (some (.ref f11))) (l11 : K.lookup f11 = some ⟨oc11, od11, .func (PySem.W.fnOf "is_arc" "is_arc" (defArgs s_is_arc) (defBody s_is_arc) (defScope s_is_arc) .none kV11 dc11 pm11 an11 cd11 ct11), sl11⟩) (k11 : PySem.W.keepIn K (.ref f11) = true) (c_11 : PySem.W.codeIn K cd11 "is_arc" = true)
    (a12 : PySem.W.nsIn K mainGlobals "pair_key" = some (some (.ref f12))) (l12 : K.lookup f12 = some ⟨oc12, od12, .func (PySem.W.fnOf "pair_key" "pair_key" (defArgs s_pair_key) (defBody s_pair_key) (defScope s_pair_key) .none kV12 dc12 pm12 an12 cd12 ct12), sl12⟩) (k12 : PySem.W.keepIn K (.ref f12) = true) (c_12 : PySem.W.codeIn K cd12 "pair_key" = true)
    (a13 : PySem.W.nsIn K mainGlobals "arc_key" = some (some (.ref f13))) (l13 : K.lookup f13 = some ⟨oc13, od13, .func (PySem.W.fnOf "arc_key" "arc_key" (defArgs s_arc_key) (defBody s_arc_key) (defScope s_arc_key) .none kV13 dc13 pm13 an13 cd13 ct13), sl13⟩) (k13 : PySem.W.keepIn K (.ref f13) = true) (c_13 : PySem.W.codeIn K cd13 "arc_key" = true)
    (a14 : PySem.W.nsIn K mainGlobals "check_many" = some (some (.ref f14))) (l14 : K.lookup f14 = some ⟨oc14, od14, .func (PySem.W.fnOf "check_many" "check_many" (defArgs s_check_many) (defBody s_check_many) (defScope s_check_many) .none kV14 dc14 pm14 an14 cd14 ct14), sl14⟩) (k14 : PySem.W.keepIn K (.ref f14) = true) (c_14 : PySem.W.codeIn K cd14 "check_many" = true)
    (a15 : PySem.W.nsIn K mainGlobals "checked_pairs" = some (some (.ref f15))) (l15 : K.lookup f15 = some ⟨oc15, od15, .func (PySem.W.fnOf "checked_pairs" "checked_pairs" (defArgs s_checked_pairs) (defBody s_checked_pairs) (defScope s_checked_pairs) .none kV15 dc15 pm15 an15 cd15 ct15), sl15⟩) (k15 : PySem.W.keepIn K (.ref f15) = true) (c_15 : PySem.W.codeIn K cd15 "checked_pairs" = true)
    (a16 : PySem.W.nsIn K mainGlobals "checked_arcs" = some (some (.ref f16))) (l16 : K.lookup f16 = some ⟨oc16, od16, .func (PySem.W.fnOf "checked_arcs" "checked_arcs" (defArgs s_checked_arcs) (defBody s_checked_arcs) (defScope s_checked_arcs) .none kV16 dc16 pm16 an16 cd16 ct16), sl16⟩) (k16 : PySem.W.keepIn K (.ref f16) = true) (c_16 : PySem.W.codeIn K cd16 "checked_arcs" = true)
    (a17 : PySem.W.nsIn K mainGlobals "renumber" = some (some (.ref f17))) (l17 : K.lookup f17 = some ⟨oc17, od17, .func (PySem.W.fnOf "renumber" "renumber" (defArgs s_renumber) (defBody s_renumber) (defScope s_renumber) .none kV17 dc17 pm17 an17 cd17 ct17), sl17⟩) (k17 : PySem.W.keepIn K (.ref f17) = true) (c_17 : PySem.W.codeIn K cd17 "renumber" = true)
    (a18 : PySem.W.nsIn K mainGlobals "moved_machine" = some (some (.ref f18))) (l18 : K.lookup f18 = some ⟨oc18, od18, .func (PySem.W.fnOf "moved_machine" "moved_machine" (defArgs s_moved_machine) (defBody s_moved_machine) (defScope s_moved_machine) .none kV18 dc18 pm18 an18 cd18 ct18), sl18⟩) (k18 : PySem.W.keepIn K (.ref f18) = true) (c_18 : PySem.W.codeIn K cd18 "moved_machine" = true)
    (a19 : PySem.W.nsIn K mainGlobals "moved_pairs" = some (some (.ref f19))) (l19 : K.lookup f19 = some ⟨oc19, od19, .func (PySem.W.fnOf "moved_pairs" "moved_pairs" (defArgs s_moved_pairs) (defBody s_moved_pairs) (defScope s_moved_pairs) .none kV19 dc19 pm19 an19 cd19 ct19), sl19⟩) (k19 : PySem.W.keepIn K (.ref f19) = true) (c_19 : PySem.W.codeIn K cd19 "moved_pairs" = true)
    (a20 : PySem.W.nsIn K mainGlobals "moved_arcs" = some (some (.ref f20))) (l20 : K.lookup f20 = some ⟨oc20, od20, .func (PySem.W.fnOf "moved_arcs" "moved_arcs" (defArgs s_moved_arcs) (defBody s_moved_arcs) (defScope s_moved_arcs) .none kV20 dc20 pm20 an20 cd20 ct20), sl20⟩) (k20 : PySem.W.keepIn K (.ref f20) = true) (c_20 : PySem.W.codeIn K cd20 "moved_arcs" = true)
    (a21 : PySem.W.nsIn K mainGlobals "show_machine" = some (some (.ref f21))) (l21 : K.lookup f21 = some ⟨oc21, od21, .func (PySem.W.fnOf "show_machine" "show_machine" (defArgs s_show_machine) (defBody s_show_machine) (defScope s_show_machine) .none kV21 dc21 pm21 an21 cd21 ct21), sl21⟩) (k21 : PySem.W.keepIn K (.ref f21) = true) (c_21 : PySem.W.codeIn K cd21 "show_machine" = true)
    (a22 : PySem.W.nsIn K mainGlobals "_law_mix" = some (some (.ref f22))) (l22 : K.lookup f22 = some ⟨oc22, od22, .func (PySem.W.fnOf "_law_mix" "_law_mix" (defArgs s_mix) (defBody s_mix) (defScope s_mix) .none kV22 dc22 pm22 an22 cd22 ct22), sl22⟩) (k22 : PySem.W.keepIn K (.ref f22) = true) (c_22 : PySem.W.codeIn K cd22 "_law_mix" = true)
    (a23 : PySem.W.nsIn K mainGlobals "_law_store" = some (some (.ref f23))) (l23 : K.lookup f23 = some ⟨oc23, od23, .func (PySem.W.fnOf "_law_store" "_law_store" (defArgs s_store) (defBody s_store) (defScope s_store) .none kV23 dc23 pm23 an23 cd23 ct23), sl23⟩) (k23 : PySem.W.keepIn K (.ref f23) = true) (c_23 : PySem.W.codeIn K cd23 "_law_store" = true)
    (a24 : PySem.W.nsIn K mainGlobals "_law_take" = some (some (.ref f24))) (l24 : K.lookup f24 = some ⟨oc24, od24, .func (PySem.W.fnOf "_law_take" "_law_take" (defArgs s_take) (defBody s_take) (defScope s_take) .none kV24 dc24 pm24 an24 cd24 ct24), sl24⟩) (k24 : PySem.W.keepIn K (.ref f24) = true) (c_24 : PySem.W.codeIn K cd24 "_law_take" = true)
    (a25 : PySem.W.nsIn K mainGlobals "_law_pick" = some (some (.ref f25))) (l25 : K.lookup f25 = some ⟨oc25, od25, .func (PySem.W.fnOf "_law_pick" "_law_pick" (defArgs s_pick) (defBody s_pick) (defScope s_pick) .none kV25 dc25 pm25 an25 cd25 ct25), sl25⟩) (k25 : PySem.W.keepIn K (.ref f25) = true) (c_25 : PySem.W.codeIn K cd25 "_law_pick" = true)
    (a26 : PySem.W.nsIn K mainGlobals "_law_between" = some (some (.ref f26))) (l26 : K.lookup f26 = some ⟨oc26, od26, .func (PySem.W.fnOf "_law_between" "_law_between" (defArgs s_between) (defBody s_between) (defScope s_between) .none kV26 dc26 pm26 an26 cd26 ct26), sl26⟩) (k26 : PySem.W.keepIn K (.ref f26) = true) (c_26 : PySem.W.codeIn K cd26 "_law_between" = true)
    (a27 : PySem.W.nsIn K mainGlobals "_law_order" = some (some (.ref f27))) (l27 : K.lookup f27 = some ⟨oc27, od27, .func (PySem.W.fnOf "_law_order" "_law_order" (defArgs s_order) (defBody s_order) (defScope s_order) .none kV27 dc27 pm27 an27 cd27 ct27), sl27⟩) (k27 : PySem.W.keepIn K (.ref f27) = true) (c_27 : PySem.W.codeIn K cd27 "_law_order" = true)
    (a28 : PySem.W.nsIn K mainGlobals "_law_turned" = some (some (.ref f28))) (l28 : K.lookup f28 = some ⟨oc28, od28, .func (PySem.W.fnOf "_law_turned" "_law_turned" (defArgs s_turned) (defBody s_turned) (defScope s_turned) .none kV28 dc28 pm28 an28 cd28 ct28), sl28⟩) (k28 : PySem.W.keepIn K (.ref f28) = true) (c_28 : PySem.W.codeIn K cd28 "_law_turned" = true)
    (a29 : PySem.W.nsIn K mainGlobals "_law_repeated" = some (some (.ref f29))) (l29 : K.lookup f29 = some ⟨oc29, od29, .func (PySem.W.fnOf "_law_repeated" "_law_repeated" (defArgs s_repeated) (defBody s_repeated) (defScope s_repeated) .none kV29 dc29 pm29 an29 cd29 ct29), sl29⟩) (k29 : PySem.W.keepIn K (.ref f29) = true) (c_29 : PySem.W.codeIn K cd29 "_law_repeated" = true)
    (a30 : PySem.W.nsIn K mainGlobals "_law_not_number" = some (some (.ref f30))) (l30 : K.lookup f30 = some ⟨oc30, od30, .func (PySem.W.fnOf "_law_not_number" "_law_not_number" (defArgs s_not_number) (defBody s_not_number) (defScope s_not_number) .none kV30 dc30 pm30 an30 cd30 ct30), sl30⟩) (k30 : PySem.W.keepIn K (.ref f30) = true) (c_30 : PySem.W.codeIn K cd30 "_law_not_number" = true)
    (a31 : PySem.W.nsIn K mainGlobals "_law_letters" = some (some (.ref f31))) (l31 : K.lookup f31 = some ⟨oc31, od31, .func (PySem.W.fnOf "_law_letters" "_law_letters" (defArgs s_letters) (defBody s_letters) (defScope s_letters) .none kV31 dc31 pm31 an31 cd31 ct31), sl31⟩) (k31 : PySem.W.keepIn K (.ref f31) = true) (c_31 : PySem.W.codeIn K cd31 "_law_letters" = true)
    (a32 : PySem.W.nsIn K mainGlobals "_law_word" = some (some (.ref f32))) (l32 : K.lookup f32 = some ⟨oc32, od32, .func (PySem.W.fnOf "_law_word" "_law_word" (defArgs s_word) (defBody s_word) (defScope s_word) .none kV32 dc32 pm32 an32 cd32 ct32), sl32⟩) (k32 : PySem.W.keepIn K (.ref f32) = true) (c_32 : PySem.W.codeIn K cd32 "_law_word" = true)
    (a33 : PySem.W.nsIn K mainGlobals "_law_unlike_word" = some (some (.ref f33))) (l33 : K.lookup f33 = some ⟨oc33, od33, .func (PySem.W.fnOf "_law_unlike_word" "_law_unlike_word" (defArgs s_unlike_word) (defBody s_unlike_word) (defScope s_unlike_word) .none kV33 dc33 pm33 an33 cd33 ct33), sl33⟩) (k33 : PySem.W.keepIn K (.ref f33) = true) (c_33 : PySem.W.codeIn K cd33 "_law_unlike_word" = true)
    (a34 : PySem.W.nsIn K mainGlobals "_law_arc" = some (some (.ref f34))) (l34 : K.lookup f34 = some ⟨oc34, od34, .func (PySem.W.fnOf "_law_arc" "_law_arc" (defArgs s_arc) (defBody s_arc) (defScope s_arc) .none kV34 dc34 pm34 an34 cd34 ct34), sl34⟩) (k34 : PySem.W.keepIn K (.ref f34) = true) (c_34 : PySem.W.codeIn K cd34 "_law_arc" = true)
    (a35 : PySem.W.nsIn K mainGlobals "_law_machine" = some (some (.ref f35))) (l35 : K.lookup f35 = some ⟨oc35, od35, .func (PySem.W.fnOf "_law_machine" "_law_machine" (defArgs s_machine) (defBody s_machine) (defScope s_machine) .none kV35 dc35 pm35 an35 cd35 ct35), sl35⟩) (k35 : PySem.W.keepIn K (.ref f35) = true) (c_35 : PySem.W.codeIn K cd35 "_law_machine" = true)
    (a36 : PySem.W.nsIn K mainGlobals "_law_renamed" = some (some (.ref f36))) (l36 : K.lookup f36 = some ⟨oc36, od36, .func (PySem.W.fnOf "_law_renamed" "_law_renamed" (defArgs s_renamed) (defBody s_renamed) (defScope s_renamed) .none kV36 dc36 pm36 an36 cd36 ct36), sl36⟩) (k36 : PySem.W.keepIn K (.ref f36) = true) (c_36 : PySem.W.codeIn K cd36 "_law_renamed" = true)
    (a37 : PySem.W.nsIn K mainGlobals "_law_bad_order" = some (some (.ref f37))) (l37 : K.lookup f37 = some ⟨oc37, od37, .func (PySem.W.fnOf "_law_bad_order" "_law_bad_order" (defArgs s_bad_order) (defBody s_bad_order) (defScope s_bad_order) .none kV37 dc37 pm37 an37 cd37 ct37), sl37⟩) (k37 : PySem.W.keepIn K (.ref f37) = true) (c_37 : PySem.W.codeIn K cd37 "_law_bad_order" = true)
    (a38 : PySem.W.nsIn K mainGlobals "_law_shown" = some (some (.ref f38))) (l38 : K.lookup f38 = some ⟨oc38, od38, .func (PySem.W.fnOf "_law_shown" "_law_shown" (defArgs s_shown) (defBody s_shown) (defScope s_shown) .none kV38 dc38 pm38 an38 cd38 ct38), sl38⟩) (k38 : PySem.W.keepIn K (.ref f38) = true) (c_38 : PySem.W.codeIn K cd38 "_law_shown" = true)
    (a39 : PySem.W.nsIn K mainGlobals "_law_tidy" = some (some (.ref f39))) (l39 : K.lookup f39 = some ⟨oc39, od39, .func (PySem.W.fnOf "_law_tidy" "_law_tidy" (defArgs s_tidy) (defBody s_tidy) (defScope s_tidy) .none kV39 dc39 pm39 an39 cd39 ct39), sl39⟩) (k39 : PySem.W.keepIn K (.ref f39) = true) (c_39 : PySem.W.codeIn K cd39 "_law_tidy" = true)
    (a40 : PySem.W.nsIn K mainGlobals "_law_entry_key" = some (some (.ref f40))) (l40 : K.lookup f40 = some ⟨oc40, od40, .func (PySem.W.fnOf "_law_entry_key" "_law_entry_key" (defArgs s_entry_key) (defBody s_entry_key) (defScope s_entry_key) .none kV40 dc40 pm40 an40 cd40 ct40), sl40⟩) (k40 : PySem.W.keepIn K (.ref f40) = true) (c_40 : PySem.W.codeIn K cd40 "_law_entry_key" = true)
    (a41 : PySem.W.nsIn K mainGlobals "_law_machine_rows" = some (some (.ref f41))) (l41 : K.lookup f41 = some ⟨oc41, od41, .func (PySem.W.fnOf "_law_machine_rows" "_law_machine_rows" (defArgs s_machine_rows) (defBody s_machine_rows) (defScope s_machine_rows) .none kV41 dc41 pm41 an41 cd41 ct41), sl41⟩) (k41 : PySem.W.keepIn K (.ref f41) = true) (c_41 : PySem.W.codeIn K cd41 "_law_machine_rows" = true)
    (a42 : PySem.W.nsIn K mainGlobals "_law_joined" = some (some (.ref f42))) (l42 : K.lookup f42 = some ⟨oc42, od42, .func (PySem.W.fnOf "_law_joined" "_law_joined" (defArgs s_joined) (defBody s_joined) (defScope s_joined) .none kV42 dc42 pm42 an42 cd42 ct42), sl42⟩) (k42 : PySem.W.keepIn K (.ref f42) = true) (c_42 : PySem.W.codeIn K cd42 "_law_joined" = true)
    (a43 : PySem.W.nsIn K mainGlobals "_law_same" = some (some (.ref f43))) (l43 : K.lookup f43 = some ⟨oc43, od43, .func (PySem.W.fnOf "_law_same" "_law_same" (defArgs s_same) (defBody s_same) (defScope s_same) .none kV43 dc43 pm43 an43 cd43 ct43), sl43⟩) (k43 : PySem.W.keepIn K (.ref f43) = true) (c_43 : PySem.W.codeIn K cd43 "_law_same" = true)
    (a44 : PySem.W.nsIn K mainGlobals "_law_copy" = some (some (.ref f44))) (l44 : K.lookup f44 = some ⟨oc44, od44, .func (PySem.W.fnOf "_law_copy" "_law_copy" (defArgs s_copy) (defBody s_copy) (defScope s_copy) .none kV44 dc44 pm44 an44 cd44 ct44), sl44⟩) (k44 : PySem.W.keepIn K (.ref f44) = true) (c_44 : PySem.W.codeIn K cd44 "_law_copy" = true)
    (a45 : PySem.W.nsIn K mainGlobals "_law_machine_of" = some (some (.ref f45))) (l45 : K.lookup f45 = some ⟨oc45, od45, .func (PySem.W.fnOf "_law_machine_of" "_law_machine_of" (defArgs s_machine_of) (defBody s_machine_of) (defScope s_machine_of) .none kV45 dc45 pm45 an45 cd45 ct45), sl45⟩) (k45 : PySem.W.keepIn K (.ref f45) = true) (c_45 : PySem.W.codeIn K cd45 "_law_machine_of" = true)
    (a46 : PySem.W.nsIn K mainGlobals "_law_parts_of" = some (some (.ref f46))) (l46 : K.lookup f46 = some ⟨oc46, od46, .func (PySem.W.fnOf "_law_parts_of" "_law_parts_of" (defArgs s_parts_of) (defBody s_parts_of) (defScope s_parts_of) .none kV46 dc46 pm46 an46 cd46 ct46), sl46⟩) (k46 : PySem.W.keepIn K (.ref f46) = true) (c_46 : PySem.W.codeIn K cd46 "_law_parts_of" = true)
    (a47 : PySem.W.nsIn K mainGlobals "_law_error" = some (some (.ref f47))) (l47 : K.lookup f47 = some ⟨oc47, od47, .func (PySem.W.fnOf "_law_error" "_law_error" (defArgs s_error) (defBody s_error) (defScope s_error) .none kV47 dc47 pm47 an47 cd47 ct47), sl47⟩) (k47 : PySem.W.keepIn K (.ref f47) = true) (c_47 : PySem.W.codeIn K cd47 "_law_error" = true)
    (a48 : PySem.W.nsIn K mainGlobals "_law_some_order" = some (some (.ref f48))) (l48 : K.lookup f48 = some ⟨oc48, od48, .func (PySem.W.fnOf "_law_some_order" "_law_some_order" (defArgs s_some_order) (defBody s_some_order) (defScope s_some_order) .none kV48 dc48 pm48 an48 cd48 ct48), sl48⟩) (k48 : PySem.W.keepIn K (.ref f48) = true) (c_48 : PySem.W.codeIn K cd48 "_law_some_order" = true)
    (a49 : PySem.W.nsIn K mainGlobals "_law_moves_all" = some (some (.ref f49))) (l49 : K.lookup f49 = some ⟨oc49, od49, .func (PySem.W.fnOf "_law_moves_all" "_law_moves_all" (defArgs s_moves_all) (defBody s_moves_all) (defScope s_moves_all) .none kV49 dc49 pm49 an49 cd49 ct49), sl49⟩) (k49 : PySem.W.keepIn K (.ref f49) = true) (c_49 : PySem.W.codeIn K cd49 "_law_moves_all" = true)
    (a50 : PySem.W.nsIn K mainGlobals "_law_refuses" = some (some (.ref f50))) (l50 : K.lookup f50 = some ⟨oc50, od50, .func (PySem.W.fnOf "_law_refuses" "_law_refuses" (defArgs s_refuses) (defBody s_refuses) (defScope s_refuses) .none kV50 dc50 pm50 an50 (.ref c50) ct50), sl50⟩) (k50 : PySem.W.keepIn K (.ref f50) = true) (c_50 : PySem.W.codeIn K (.ref c50) "_law_refuses" = true)
    (r50 : K.lookup c50 = some ⟨ve50, vd50, .fields vs50, vl50⟩) (p50 : vs50[11]? = some (.ref P50)) (n50 : K.lookup P50 = none)
    (h50 : PySem.W.codeHdIn K c50 P50 = true) (y50 : Str.ofString "_law_refuses" ∈ names)
    (a51 : PySem.W.nsIn K mainGlobals "law" = some (some (.ref f51))) (l51 : K.lookup f51 = some ⟨oc51, od51, .func (PySem.W.fnOf "law" "law" (defArgs s_law) (defBody s_law) (defScope s_law) .none kV51 dc51 pm51 an51 cd51 ct51), sl51⟩) (k51 : PySem.W.keepIn K (.ref f51) = true) (c_51 : PySem.W.codeIn K cd51 "law" = true)
    {eC0 eC1 eI1 eC2 eI2 eC3 eI3 eC4 eI4 eC5 eC6 eI6 : Addr}
    (sp1 : PySem.W.specialIn K (.builtin "object.__class__") "__get__" = some (some (.builtin "getset_descriptor.__get__"))) (sp2 : PySem.W.takesIn K (.builtin "object.__class__") = some true)
    (ea0 : PySem.W.nsIn K mainGlobals "LagError" = some (some (.ref eC0))) {enm0 : _} {eq0 : _} {eN0 : _} {ebs0 : _} {ebm0 : _} {esn0 : _} {esub0 : _} {eab0 : _} {ecol0 : _} {edd0 : _} {ek00 : _} {ek10 : _} {ek20 : _} {ek30 : _} {ek50 : _} (el0 : K.lookup eC0 = some (excClassObj enm0 eq0 eC0 eN0 ebs0 ebm0 true esn0 esub0 eab0 ecol0 edd0 ek00 ek10 ek20 ek30 ek50 "ValueError.__new__")) (er0 : PySem.HandSPX.refsVE ebm0 = true)
    (esa0 : PySem.W.findIn K (.ref eC0) "__setattr__" = some (some (.builtin "object.__setattr__")))
    (eex0 : PySem.W.subIn K (.ref eC0) (.type "BaseException") = some true)
    (ety0 : PySem.W.typeIn K (.ref eC0) = some (.type "type"))
    (ekp0 : PySem.W.keepIn K (.ref eC0) = true)
    (ega0 : PySem.W.findIn K (.ref eC0) "__getattribute__" = some (some (.builtin "BaseException.__getattribute__")))
    (egg0 : PySem.W.findIn K (.ref eC0) "__getattr__" = some none)
    (ehd0 : PySem.W.hasDictIn K eC0 = true)
    (eca0 : PySem.W.findIn K (.ref eC0) "__class__" = some (some (.builtin "object.__class__")))
    (emr0 : PySem.W.mroIn K eC0 (.type "object") = some true)
    (ea1 : PySem.W.nsIn K mainGlobals "BadLetters" = some (some (.ref eC1))) {enm1 : _} {eq1 : _} {eN1 : _} {ebs1 : _} {ebm1 : _} {esn1 : _} {esub1 : _} {eab1 : _} {ecol1 : _} {edd1 : _} {ek01 : _} {ek11 : _} {ek21 : _} {ek31 : _} {ek51 : _} (el1 : K.lookup eC1 = some (excClassObj enm1 eq1 eC1 eN1 ebs1 ebm1 true esn1 esub1 eab1 ecol1 edd1 ek01 ek11 ek21 ek31 ek51 "ValueError.__new__")) (er1 : PySem.HandSPX.refsVE ebm1 = true)
    (esa1 : PySem.W.findIn K (.ref eC1) "__setattr__" = some (some (.builtin "object.__setattr__")))
    (eex1 : PySem.W.subIn K (.ref eC1) (.type "BaseException") = some true)
    (ety1 : PySem.W.typeIn K (.ref eC1) = some (.type "type"))
    (ekp1 : PySem.W.keepIn K (.ref eC1) = true)
    (ega1 : PySem.W.findIn K (.ref eC1) "__getattribute__" = some (some (.builtin "BaseException.__getattribute__")))
    (egg1 : PySem.W.findIn K (.ref eC1) "__getattr__" = some none)
    (ehd1 : PySem.W.hasDictIn K eC1 = true)
    (eca1 : PySem.W.findIn K (.ref eC1) "__class__" = some (some (.builtin "object.__class__")))
    (emr1 : PySem.W.mroIn K eC1 (.type "object") = some true)
    {eod1 ean1 : Option Addr} {esl1 : Array (Option Value)} {eoc1 ekV1 edc1 epm1 ecd1 ect1 : Value} (iI1 : PySem.W.findIn K (.ref eC1) "__init__" = some (some (.ref eI1))) (tI1 : PySem.W.typeIn K (.ref eI1) = some (.type "function"))
    (lI1 : K.lookup eI1 = some ⟨eoc1, eod1, .func (PySem.W.fnOf "__init__" "BadLetters.__init__" (defArgs si_BadLetters) (defBody si_BadLetters) (defScope si_BadLetters) .none ekV1 edc1 epm1 ean1 ecd1 ect1), esl1⟩) (cI1 : PySem.W.codeIn K ecd1 "BadLetters.__init__" = true) (kI1 : PySem.W.keepIn K (.ref eI1) = true)
    (eno1_value : PySem.W.findIn K (.ref eC1) "value" = some none)
    (ea2 : PySem.W.nsIn K mainGlobals "BadWord" = some (some (.ref eC2))) {enm2 : _} {eq2 : _} {eN2 : _} {ebs2 : _} {ebm2 : _} {esn2 : _} {esub2 : _} {eab2 : _} {ecol2 : _} {edd2 : _} {ek02 : _} {ek12 : _} {ek22 : _} {ek32 : _} {ek52 : _} (el2 : K.lookup eC2 = some (excClassObj enm2 eq2 eC2 eN2 ebs2 ebm2 true esn2 esub2 eab2 ecol2 edd2 ek02 ek12 ek22 ek32 ek52 "ValueError.__new__")) (er2 : PySem.HandSPX.refsVE ebm2 = true)
    (esa2 : PySem.W.findIn K (.ref eC2) "__setattr__" = some (some (.builtin "object.__setattr__")))
    (eex2 : PySem.W.subIn K (.ref eC2) (.type "BaseException") = some true)
    (ety2 : PySem.W.typeIn K (.ref eC2) = some (.type "type"))
    (ekp2 : PySem.W.keepIn K (.ref eC2) = true)
    (ega2 : PySem.W.findIn K (.ref eC2) "__getattribute__" = some (some (.builtin "BaseException.__getattribute__")))
    (egg2 : PySem.W.findIn K (.ref eC2) "__getattr__" = some none)
    (ehd2 : PySem.W.hasDictIn K eC2 = true)
    (eca2 : PySem.W.findIn K (.ref eC2) "__class__" = some (some (.builtin "object.__class__")))
    (emr2 : PySem.W.mroIn K eC2 (.type "object") = some true)
    {eod2 ean2 : Option Addr} {esl2 : Array (Option Value)} {eoc2 ekV2 edc2 epm2 ecd2 ect2 : Value} (iI2 : PySem.W.findIn K (.ref eC2) "__init__" = some (some (.ref eI2))) (tI2 : PySem.W.typeIn K (.ref eI2) = some (.type "function"))
    (lI2 : K.lookup eI2 = some ⟨eoc2, eod2, .func (PySem.W.fnOf "__init__" "BadWord.__init__" (defArgs si_BadWord) (defBody si_BadWord) (defScope si_BadWord) .none ekV2 edc2 epm2 ean2 ecd2 ect2), esl2⟩) (cI2 : PySem.W.codeIn K ecd2 "BadWord.__init__" = true) (kI2 : PySem.W.keepIn K (.ref eI2) = true)
    (eno2_value : PySem.W.findIn K (.ref eC2) "value" = some none)
    (ea3 : PySem.W.nsIn K mainGlobals "BadNumber" = some (some (.ref eC3))) {enm3 : _} {eq3 : _} {eN3 : _} {ebs3 : _} {ebm3 : _} {esn3 : _} {esub3 : _} {eab3 : _} {ecol3 : _} {edd3 : _} {ek03 : _} {ek13 : _} {ek23 : _} {ek33 : _} {ek53 : _} (el3 : K.lookup eC3 = some (excClassObj enm3 eq3 eC3 eN3 ebs3 ebm3 true esn3 esub3 eab3 ecol3 edd3 ek03 ek13 ek23 ek33 ek53 "ValueError.__new__")) (er3 : PySem.HandSPX.refsVE ebm3 = true)
    (esa3 : PySem.W.findIn K (.ref eC3) "__setattr__" = some (some (.builtin "object.__setattr__")))
    (eex3 : PySem.W.subIn K (.ref eC3) (.type "BaseException") = some true)
    (ety3 : PySem.W.typeIn K (.ref eC3) = some (.type "type"))
    (ekp3 : PySem.W.keepIn K (.ref eC3) = true)
    (ega3 : PySem.W.findIn K (.ref eC3) "__getattribute__" = some (some (.builtin "BaseException.__getattribute__")))
    (egg3 : PySem.W.findIn K (.ref eC3) "__getattr__" = some none)
    (ehd3 : PySem.W.hasDictIn K eC3 = true)
    (eca3 : PySem.W.findIn K (.ref eC3) "__class__" = some (some (.builtin "object.__class__")))
    (emr3 : PySem.W.mroIn K eC3 (.type "object") = some true)
    {eod3 ean3 : Option Addr} {esl3 : Array (Option Value)} {eoc3 ekV3 edc3 epm3 ecd3 ect3 : Value} (iI3 : PySem.W.findIn K (.ref eC3) "__init__" = some (some (.ref eI3))) (tI3 : PySem.W.typeIn K (.ref eI3) = some (.type "function"))
    (lI3 : K.lookup eI3 = some ⟨eoc3, eod3, .func (PySem.W.fnOf "__init__" "BadNumber.__init__" (defArgs si_BadNumber) (defBody si_BadNumber) (defScope si_BadNumber) .none ekV3 edc3 epm3 ean3 ecd3 ect3), esl3⟩) (cI3 : PySem.W.codeIn K ecd3 "BadNumber.__init__" = true) (kI3 : PySem.W.keepIn K (.ref eI3) = true)
    (eno3_value : PySem.W.findIn K (.ref eC3) "value" = some none)
    (ea4 : PySem.W.nsIn K mainGlobals "BadEntry" = some (some (.ref eC4))) {enm4 : _} {eq4 : _} {eN4 : _} {ebs4 : _} {ebm4 : _} {esn4 : _} {esub4 : _} {eab4 : _} {ecol4 : _} {edd4 : _} {ek04 : _} {ek14 : _} {ek24 : _} {ek34 : _} {ek54 : _} (el4 : K.lookup eC4 = some (excClassObj enm4 eq4 eC4 eN4 ebs4 ebm4 true esn4 esub4 eab4 ecol4 edd4 ek04 ek14 ek24 ek34 ek54 "ValueError.__new__")) (er4 : PySem.HandSPX.refsVE ebm4 = true)
    (esa4 : PySem.W.findIn K (.ref eC4) "__setattr__" = some (some (.builtin "object.__setattr__")))
    (eex4 : PySem.W.subIn K (.ref eC4) (.type "BaseException") = some true)
    (ety4 : PySem.W.typeIn K (.ref eC4) = some (.type "type"))
    (ekp4 : PySem.W.keepIn K (.ref eC4) = true)
    (ega4 : PySem.W.findIn K (.ref eC4) "__getattribute__" = some (some (.builtin "BaseException.__getattribute__")))
    (egg4 : PySem.W.findIn K (.ref eC4) "__getattr__" = some none)
    (ehd4 : PySem.W.hasDictIn K eC4 = true)
    (eca4 : PySem.W.findIn K (.ref eC4) "__class__" = some (some (.builtin "object.__class__")))
    (emr4 : PySem.W.mroIn K eC4 (.type "object") = some true)
    {eod4 ean4 : Option Addr} {esl4 : Array (Option Value)} {eoc4 ekV4 edc4 epm4 ecd4 ect4 : Value} (iI4 : PySem.W.findIn K (.ref eC4) "__init__" = some (some (.ref eI4))) (tI4 : PySem.W.typeIn K (.ref eI4) = some (.type "function"))
    (lI4 : K.lookup eI4 = some ⟨eoc4, eod4, .func (PySem.W.fnOf "__init__" "BadEntry.__init__" (defArgs si_BadEntry) (defBody si_BadEntry) (defScope si_BadEntry) .none ekV4 edc4 epm4 ean4 ecd4 ect4), esl4⟩) (cI4 : PySem.W.codeIn K ecd4 "BadEntry.__init__" = true) (kI4 : PySem.W.keepIn K (.ref eI4) = true)
    (eno4_place : PySem.W.findIn K (.ref eC4) "place" = some none)
    (eno4_index : PySem.W.findIn K (.ref eC4) "index" = some none)
    (ea5 : PySem.W.nsIn K mainGlobals "Mismatch" = some (some (.ref eC5))) {enm5 : _} {eq5 : _} {eN5 : _} {ebs5 : _} {ebm5 : _} {esn5 : _} {esub5 : _} {eab5 : _} {ecol5 : _} {edd5 : _} {ek05 : _} {ek15 : _} {ek25 : _} {ek35 : _} {ek55 : _} (el5 : K.lookup eC5 = some (excClassObj enm5 eq5 eC5 eN5 ebs5 ebm5 true esn5 esub5 eab5 ecol5 edd5 ek05 ek15 ek25 ek35 ek55 "ValueError.__new__")) (er5 : PySem.HandSPX.refsVE ebm5 = true)
    (esa5 : PySem.W.findIn K (.ref eC5) "__setattr__" = some (some (.builtin "object.__setattr__")))
    (eex5 : PySem.W.subIn K (.ref eC5) (.type "BaseException") = some true)
    (ety5 : PySem.W.typeIn K (.ref eC5) = some (.type "type"))
    (ekp5 : PySem.W.keepIn K (.ref eC5) = true)
    (ega5 : PySem.W.findIn K (.ref eC5) "__getattribute__" = some (some (.builtin "BaseException.__getattribute__")))
    (egg5 : PySem.W.findIn K (.ref eC5) "__getattr__" = some none)
    (ehd5 : PySem.W.hasDictIn K eC5 = true)
    (eca5 : PySem.W.findIn K (.ref eC5) "__class__" = some (some (.builtin "object.__class__")))
    (emr5 : PySem.W.mroIn K eC5 (.type "object") = some true)
    (ea6 : PySem.W.nsIn K mainGlobals "TooLarge" = some (some (.ref eC6))) {enm6 : _} {eq6 : _} {eN6 : _} {ebs6 : _} {ebm6 : _} {esn6 : _} {esub6 : _} {eab6 : _} {ecol6 : _} {edd6 : _} {ek06 : _} {ek16 : _} {ek26 : _} {ek36 : _} {ek56 : _} (el6 : K.lookup eC6 = some (excClassObj enm6 eq6 eC6 eN6 ebs6 ebm6 true esn6 esub6 eab6 ecol6 edd6 ek06 ek16 ek26 ek36 ek56 "ValueError.__new__")) (er6 : PySem.HandSPX.refsVE ebm6 = true)
    (esa6 : PySem.W.findIn K (.ref eC6) "__setattr__" = some (some (.builtin "object.__setattr__")))
    (eex6 : PySem.W.subIn K (.ref eC6) (.type "BaseException") = some true)
    (ety6 : PySem.W.typeIn K (.ref eC6) = some (.type "type"))
    (ekp6 : PySem.W.keepIn K (.ref eC6) = true)
    (ega6 : PySem.W.findIn K (.ref eC6) "__getattribute__" = some (some (.builtin "BaseException.__getattribute__")))
    (egg6 : PySem.W.findIn K (.ref eC6) "__getattr__" = some none)
    (ehd6 : PySem.W.hasDictIn K eC6 = true)
    (eca6 : PySem.W.findIn K (.ref eC6) "__class__" = some (some (.builtin "object.__class__")))
    (emr6 : PySem.W.mroIn K eC6 (.type "object") = some true)
    {eod6 ean6 : Option Addr} {esl6 : Array (Option Value)} {eoc6 ekV6 edc6 epm6 ecd6 ect6 : Value} (iI6 : PySem.W.findIn K (.ref eC6) "__init__" = some (some (.ref eI6))) (tI6 : PySem.W.typeIn K (.ref eI6) = some (.type "function"))
    (lI6 : K.lookup eI6 = some ⟨eoc6, eod6, .func (PySem.W.fnOf "__init__" "TooLarge.__init__" (defArgs si_TooLarge) (defBody si_TooLarge) (defScope si_TooLarge) .none ekV6 edc6 epm6 ean6 ecd6 ect6), esl6⟩) (cI6 : PySem.W.codeIn K ecd6 "TooLarge.__init__" = true) (kI6 : PySem.W.keepIn K (.ref eI6) = true)
    (eno6_what : PySem.W.findIn K (.ref eC6) "what" = some none)
    (eno6_limit : PySem.W.findIn K (.ref eC6) "limit" = some none)
    (cl_BadEntry : PySem.W.isClsIn K eC4 = true) (ss_BadEntry : PySem.W.subIn K (.ref eC4) (.ref eC4) = some true)
    (cl_BadLetters : PySem.W.isClsIn K eC1 = true) (ss_BadLetters : PySem.W.subIn K (.ref eC1) (.ref eC1) = some true)
    (cl_BadNumber : PySem.W.isClsIn K eC3 = true) (ss_BadNumber : PySem.W.subIn K (.ref eC3) (.ref eC3) = some true)
    (cl_BadWord : PySem.W.isClsIn K eC2 = true) (ss_BadWord : PySem.W.subIn K (.ref eC2) (.ref eC2) = some true)
    (cl_Mismatch : PySem.W.isClsIn K eC5 = true) (ss_Mismatch : PySem.W.subIn K (.ref eC5) (.ref eC5) = some true)
    (cl_TooLarge : PySem.W.isClsIn K eC6 = true) (ss_TooLarge : PySem.W.subIn K (.ref eC6) (.ref eC6) = some true)
    (cl_LagError : PySem.W.isClsIn K eC0 = true) (ss_LagError : PySem.W.subIn K (.ref eC0) (.ref eC0) = some true)
    (s_BadNumber_BadEntry : PySem.W.subIn K (.ref eC3) (.ref eC4) = some false)
    (s_BadNumber_BadLetters : PySem.W.subIn K (.ref eC3) (.ref eC1) = some false)
    (s_BadNumber_BadWord : PySem.W.subIn K (.ref eC3) (.ref eC2) = some false)
    (s_BadNumber_Mismatch : PySem.W.subIn K (.ref eC3) (.ref eC5) = some false)
    (s_BadNumber_TooLarge : PySem.W.subIn K (.ref eC3) (.ref eC6) = some false)
    (s_BadNumber_ValueError : PySem.W.subIn K (.ref eC3) (.type "ValueError") = some true)
    (s_BadNumber_LagError : PySem.W.subIn K (.ref eC3) (.ref eC0) = some true)
    (s_BadLetters_BadEntry : PySem.W.subIn K (.ref eC1) (.ref eC4) = some false)
    (s_BadLetters_BadNumber : PySem.W.subIn K (.ref eC1) (.ref eC3) = some false)
    (s_BadLetters_BadWord : PySem.W.subIn K (.ref eC1) (.ref eC2) = some false)
    (s_BadLetters_Mismatch : PySem.W.subIn K (.ref eC1) (.ref eC5) = some false)
    (s_BadLetters_TooLarge : PySem.W.subIn K (.ref eC1) (.ref eC6) = some false)
    (s_BadLetters_ValueError : PySem.W.subIn K (.ref eC1) (.type "ValueError") = some true)
    (s_BadLetters_LagError : PySem.W.subIn K (.ref eC1) (.ref eC0) = some true)
    (s_BadEntry_BadLetters : PySem.W.subIn K (.ref eC4) (.ref eC1) = some false)
    (s_BadEntry_BadNumber : PySem.W.subIn K (.ref eC4) (.ref eC3) = some false)
    (s_BadEntry_BadWord : PySem.W.subIn K (.ref eC4) (.ref eC2) = some false)
    (s_BadEntry_Mismatch : PySem.W.subIn K (.ref eC4) (.ref eC5) = some false)
    (s_BadEntry_TooLarge : PySem.W.subIn K (.ref eC4) (.ref eC6) = some false)
    (s_BadEntry_ValueError : PySem.W.subIn K (.ref eC4) (.type "ValueError") = some true)
    (s_BadEntry_LagError : PySem.W.subIn K (.ref eC4) (.ref eC0) = some true)
    (s_TooLarge_BadEntry : PySem.W.subIn K (.ref eC6) (.ref eC4) = some false)
    (s_TooLarge_BadLetters : PySem.W.subIn K (.ref eC6) (.ref eC1) = some false)
    (s_TooLarge_BadNumber : PySem.W.subIn K (.ref eC6) (.ref eC3) = some false)
    (s_TooLarge_BadWord : PySem.W.subIn K (.ref eC6) (.ref eC2) = some false)
    (s_TooLarge_Mismatch : PySem.W.subIn K (.ref eC6) (.ref eC5) = some false)
    (s_TooLarge_ValueError : PySem.W.subIn K (.ref eC6) (.type "ValueError") = some true)
    (s_TooLarge_LagError : PySem.W.subIn K (.ref eC6) (.ref eC0) = some true)
    {oC0 : Addr} (oa0 : PySem.W.nsIn K mainGlobals "Machine" = some (some (.ref oC0))) (opg0 : PySem.W.plainGet K oC0 Str.empty = true) (ohd0 : PySem.W.hasDictIn K oC0 = true) (opo0 : PySem.W.plainOver K oC0 = true) (osa0 : PySem.W.findIn K (.ref oC0) "__setattr__" = some (some (.builtin "object.__setattr__"))) (omk0 : PySem.W.makesIn K oC0 = true) (okc0 : PySem.W.keepIn K (.ref oC0) = true)
    (on0__read : PySem.W.findIn K (.ref oC0) "_read" = some none)
    (on0__write : PySem.W.findIn K (.ref oC0) "_write" = some none)
    (on0__size : PySem.W.findIn K (.ref oC0) "_size" = some none)
    (on0__begins : PySem.W.findIn K (.ref oC0) "_begins" = some none)
    (on0__arcs : PySem.W.findIn K (.ref oC0) "_arcs" = some none)
    (on0__ends : PySem.W.findIn K (.ref oC0) "_ends" = some none)
    {mf0 : Addr} {mod0 man0 : Option Addr} {msl0 : Array (Option Value)} {moc0  mdc0 mpm0 mcd0 mct0 : Value} {mD0 : Addr}
    (ma0 : PySem.W.findIn K (.ref oC0) "__init__" = some (some (.ref mf0)))
    (mi0 : PySem.W.isFn K (.ref mf0) = true)
    (ml0 : K.lookup mf0 = some ⟨moc0, mod0, .func (PySem.W.fnOf "__init__" "Machine.__init__" (defArgs s_Machine___init__) (defBody s_Machine___init__) (defScope s_Machine___init__) .none (.ref mD0) mdc0 mpm0 man0 mcd0 mct0), msl0⟩) (mc0 : PySem.W.codeIn K mcd0 "Machine.__init__" = true) (mk0 : PySem.W.keepIn K (.ref mf0) = true)
    {mt0_begins : Addr} {mtd0_begins : Option Addr} {mtn0_begins : Nat} {mts0_begins : Array (Option Value)} (mq0_begins : PySem.W.nsIn K mD0 "begins" = some (some (.ref mt0_begins))) (mz0_begins : K.lookup mt0_begins = some ⟨.type "tuple", mtd0_begins, .seq #[] mtn0_begins, mts0_begins⟩)
    {mt0_arcs : Addr} {mtd0_arcs : Option Addr} {mtn0_arcs : Nat} {mts0_arcs : Array (Option Value)} (mq0_arcs : PySem.W.nsIn K mD0 "arcs" = some (some (.ref mt0_arcs))) (mz0_arcs : K.lookup mt0_arcs = some ⟨.type "tuple", mtd0_arcs, .seq #[] mtn0_arcs, mts0_arcs⟩)
    {mt0_ends : Addr} {mtd0_ends : Option Addr} {mtn0_ends : Nat} {mts0_ends : Array (Option Value)} (mq0_ends : PySem.W.nsIn K mD0 "ends" = some (some (.ref mt0_ends))) (mz0_ends : K.lookup mt0_ends = some ⟨.type "tuple", mtd0_ends, .seq #[] mtn0_ends, mts0_ends⟩)
    {mf1 : Addr} {mod1 man1 : Option Addr} {msl1 : Array (Option Value)} {moc1 mkV1 mdc1 mpm1 mcd1 mct1 : Value} {mp1 : Addr} {mrest1 : List Value}
    (ma1 : PySem.W.findIn K (.ref oC0) "read" = some (some (.ref mp1)))
    (mgt1 : PySem.W.specialIn K (.ref mp1) "__get__" = some (some (.builtin "property.__get__"))) (mtk1 : PySem.W.takesIn K (.ref mp1) = some true) (mrc1 : PySem.W.recIn K mp1 "property" = some (.ref mf1 :: mrest1))
    (ml1 : K.lookup mf1 = some ⟨moc1, mod1, .func (PySem.W.fnOf "read" "Machine.read" (defArgs s_Machine_read) (defBody s_Machine_read) (defScope s_Machine_read) .none mkV1 mdc1 mpm1 man1 mcd1 mct1), msl1⟩) (mc1 : PySem.W.codeIn K mcd1 "Machine.read" = true) (mk1 : PySem.W.keepIn K (.ref mf1) = true)
    {mf2 : Addr} {mod2 man2 : Option Addr} {msl2 : Array (Option Value)} {moc2 mkV2 mdc2 mpm2 mcd2 mct2 : Value} {mp2 : Addr} {mrest2 : List Value}
    (ma2 : PySem.W.findIn K (.ref oC0) "write" = some (some (.ref mp2)))
    (mgt2 : PySem.W.specialIn K (.ref mp2) "__get__" = some (some (.builtin "property.__get__"))) (mtk2 : PySem.W.takesIn K (.ref mp2) = some true) (mrc2 : PySem.W.recIn K mp2 "property" = some (.ref mf2 :: mrest2))
    (ml2 : K.lookup mf2 = some ⟨moc2, mod2, .func (PySem.W.fnOf "write" "Machine.write" (defArgs s_Machine_write) (defBody s_Machine_write) (defScope s_Machine_write) .none mkV2 mdc2 mpm2 man2 mcd2 mct2), msl2⟩) (mc2 : PySem.W.codeIn K mcd2 "Machine.write" = true) (mk2 : PySem.W.keepIn K (.ref mf2) = true)
    {mf3 : Addr} {mod3 man3 : Option Addr} {msl3 : Array (Option Value)} {moc3 mkV3 mdc3 mpm3 mcd3 mct3 : Value} {mp3 : Addr} {mrest3 : List Value}
    (ma3 : PySem.W.findIn K (.ref oC0) "size" = some (some (.ref mp3)))
    (mgt3 : PySem.W.specialIn K (.ref mp3) "__get__" = some (some (.builtin "property.__get__"))) (mtk3 : PySem.W.takesIn K (.ref mp3) = some true) (mrc3 : PySem.W.recIn K mp3 "property" = some (.ref mf3 :: mrest3))
    (ml3 : K.lookup mf3 = some ⟨moc3, mod3, .func (PySem.W.fnOf "size" "Machine.size" (defArgs s_Machine_size) (defBody s_Machine_size) (defScope s_Machine_size) .none mkV3 mdc3 mpm3 man3 mcd3 mct3), msl3⟩) (mc3 : PySem.W.codeIn K mcd3 "Machine.size" = true) (mk3 : PySem.W.keepIn K (.ref mf3) = true)
    {mf4 : Addr} {mod4 man4 : Option Addr} {msl4 : Array (Option Value)} {moc4 mkV4 mdc4 mpm4 mcd4 mct4 : Value} {mp4 : Addr} {mrest4 : List Value}
    (ma4 : PySem.W.findIn K (.ref oC0) "begins" = some (some (.ref mp4)))
    (mgt4 : PySem.W.specialIn K (.ref mp4) "__get__" = some (some (.builtin "property.__get__"))) (mtk4 : PySem.W.takesIn K (.ref mp4) = some true) (mrc4 : PySem.W.recIn K mp4 "property" = some (.ref mf4 :: mrest4))
    (ml4 : K.lookup mf4 = some ⟨moc4, mod4, .func (PySem.W.fnOf "begins" "Machine.begins" (defArgs s_Machine_begins) (defBody s_Machine_begins) (defScope s_Machine_begins) .none mkV4 mdc4 mpm4 man4 mcd4 mct4), msl4⟩) (mc4 : PySem.W.codeIn K mcd4 "Machine.begins" = true) (mk4 : PySem.W.keepIn K (.ref mf4) = true)
    {mf5 : Addr} {mod5 man5 : Option Addr} {msl5 : Array (Option Value)} {moc5 mkV5 mdc5 mpm5 mcd5 mct5 : Value} {mp5 : Addr} {mrest5 : List Value}
    (ma5 : PySem.W.findIn K (.ref oC0) "arcs" = some (some (.ref mp5)))
    (mgt5 : PySem.W.specialIn K (.ref mp5) "__get__" = some (some (.builtin "property.__get__"))) (mtk5 : PySem.W.takesIn K (.ref mp5) = some true) (mrc5 : PySem.W.recIn K mp5 "property" = some (.ref mf5 :: mrest5))
    (ml5 : K.lookup mf5 = some ⟨moc5, mod5, .func (PySem.W.fnOf "arcs" "Machine.arcs" (defArgs s_Machine_arcs) (defBody s_Machine_arcs) (defScope s_Machine_arcs) .none mkV5 mdc5 mpm5 man5 mcd5 mct5), msl5⟩) (mc5 : PySem.W.codeIn K mcd5 "Machine.arcs" = true) (mk5 : PySem.W.keepIn K (.ref mf5) = true)
    {mf6 : Addr} {mod6 man6 : Option Addr} {msl6 : Array (Option Value)} {moc6 mkV6 mdc6 mpm6 mcd6 mct6 : Value} {mp6 : Addr} {mrest6 : List Value}
    (ma6 : PySem.W.findIn K (.ref oC0) "ends" = some (some (.ref mp6)))
    (mgt6 : PySem.W.specialIn K (.ref mp6) "__get__" = some (some (.builtin "property.__get__"))) (mtk6 : PySem.W.takesIn K (.ref mp6) = some true) (mrc6 : PySem.W.recIn K mp6 "property" = some (.ref mf6 :: mrest6))
    (ml6 : K.lookup mf6 = some ⟨moc6, mod6, .func (PySem.W.fnOf "ends" "Machine.ends" (defArgs s_Machine_ends) (defBody s_Machine_ends) (defScope s_Machine_ends) .none mkV6 mdc6 mpm6 man6 mcd6 mct6), msl6⟩) (mc6 : PySem.W.codeIn K mcd6 "Machine.ends" = true) (mk6 : PySem.W.keepIn K (.ref mf6) = true)
    {mf7 : Addr} {mod7 man7 : Option Addr} {msl7 : Array (Option Value)} {moc7 mkV7 mdc7 mpm7 mcd7 mct7 : Value}
    (ma7 : PySem.W.findIn K (.ref oC0) "__len__" = some (some (.ref mf7)))
    (mi7 : PySem.W.isFn K (.ref mf7) = true)
    (ml7 : K.lookup mf7 = some ⟨moc7, mod7, .func (PySem.W.fnOf "__len__" "Machine.__len__" (defArgs s_Machine___len__) (defBody s_Machine___len__) (defScope s_Machine___len__) .none mkV7 mdc7 mpm7 man7 mcd7 mct7), msl7⟩) (mc7 : PySem.W.codeIn K mcd7 "Machine.__len__" = true) (mk7 : PySem.W.keepIn K (.ref mf7) = true)
    {mf8 : Addr} {mod8 man8 : Option Addr} {msl8 : Array (Option Value)} {moc8 mkV8 mdc8 mpm8 mcd8 mct8 : Value}
    (ma8 : PySem.W.findIn K (.ref oC0) "__iter__" = some (some (.ref mf8)))
    (mi8 : PySem.W.isFn K (.ref mf8) = true)
    (ml8 : K.lookup mf8 = some ⟨moc8, mod8, .func (PySem.W.fnOf "__iter__" "Machine.__iter__" (defArgs s_Machine___iter__) (defBody s_Machine___iter__) (defScope s_Machine___iter__) .none mkV8 mdc8 mpm8 man8 mcd8 mct8), msl8⟩) (mc8 : PySem.W.codeIn K mcd8 "Machine.__iter__" = true) (mk8 : PySem.W.keepIn K (.ref mf8) = true)
    (z_ValueError : PySem.W.nsIn K mainGlobals "ValueError" = some none)
    (z_all : PySem.W.nsIn K mainGlobals "all" = some none)
    (z_bool : PySem.W.nsIn K mainGlobals "bool" = some none)
    (z_dict : PySem.W.nsIn K mainGlobals "dict" = some none)
    (z_enumerate : PySem.W.nsIn K mainGlobals "enumerate" = some none)
    (z_int : PySem.W.nsIn K mainGlobals "int" = some none)
    (z_isinstance : PySem.W.nsIn K mainGlobals "isinstance" = some none)
    (z_iter : PySem.W.nsIn K mainGlobals "iter" = some none)
    (z_len : PySem.W.nsIn K mainGlobals "len" = some none)
    (z_list : PySem.W.nsIn K mainGlobals "list" = some none)
    (z_max : PySem.W.nsIn K mainGlobals "max" = some none)
    (z_min : PySem.W.nsIn K mainGlobals "min" = some none)
    (z_range : PySem.W.nsIn K mainGlobals "range" = some none)
    (z_set : PySem.W.nsIn K mainGlobals "set" = some none)
    (z_sorted : PySem.W.nsIn K mainGlobals "sorted" = some none)
    (z_str : PySem.W.nsIn K mainGlobals "str" = some none)
    (z_tuple : PySem.W.nsIn K mainGlobals "tuple" = some none)
    {t_MAX_LETTERS : Tok} (c_MAX_LETTERS : PySem.W.nsIn K mainGlobals "MAX_LETTERS" = some (some (.int 4 t_MAX_LETTERS)))
    {t_MAX_WRITTEN : Tok} (c_MAX_WRITTEN : PySem.W.nsIn K mainGlobals "MAX_WRITTEN" = some (some (.int 400 t_MAX_WRITTEN)))
    {t_MAX_STATES : Tok} (c_MAX_STATES : PySem.W.nsIn K mainGlobals "MAX_STATES" = some (some (.int 64 t_MAX_STATES)))
    {t_MAX_ENTRIES : Tok} (c_MAX_ENTRIES : PySem.W.nsIn K mainGlobals "MAX_ENTRIES" = some (some (.int 400 t_MAX_ENTRIES)))
    {t_SMALL_LETTERS : Tok} (c_SMALL_LETTERS : PySem.W.nsIn K mainGlobals "SMALL_LETTERS" = some (some (.str "abcdefghijklmnopqrstuvwxyz" t_SMALL_LETTERS)))
    (one : ∀ p ∈ ([(P3, (Str.ofString "is_letters" ++ ".<locals>.") ++ "<genexpr>"), (P5, (Str.ofString "is_word" ++ ".<locals>.") ++ "<genexpr>"), (P50, (Str.ofString "_law_refuses" ++ ".<locals>.") ++ "<lambda>")] : List (Addr × Str)), ∀ q ∈ ([(P3, (Str.ofString "is_letters" ++ ".<locals>.") ++ "<genexpr>"), (P5, (Str.ofString "is_word" ++ ".<locals>.") ++ "<genexpr>"), (P50, (Str.ofString "_law_refuses" ++ ".<locals>.") ++ "<lambda>")] : List (Addr × Str)), p.1 = q.1 → p.2 = q.2) : LamX.LawAtS l w K CX0 (17 + 1) 63 "script" mg fa h := by
  have e := hfa.symm.trans (PySem.W.mg_of X G a51)
  cases e
  have F0 := fun_mk (st := s_is_whole) l0 c_0 k0
  have b0 := F0.binds (ps := ["value"]) fun _ _ _ _ _ _ us hl => match us, hl with | [_], _ => rfl
  have F1 := fun_mk (st := s_in_range) l1 c_1 k1
  have b1 := F1.binds (ps := ["value", "low", "high"]) fun _ _ _ _ _ _ us hl => match us, hl with | [_, _, _], _ => rfl
  have F2 := fun_mk (st := s_check_number) l2 c_2 k2
  have b2 := F2.binds (ps := ["value", "low", "high"]) fun _ _ _ _ _ _ us hl => match us, hl with | [_, _, _], _ => rfl
  have F3 := fun_mk (st := s_is_letters) l3 c_3 k3
  have b3 := F3.binds (ps := ["value"]) fun _ _ _ _ _ _ us hl => match us, hl with | [_], _ => rfl
  have F4 := fun_mk (st := s_is_letter) l4 c_4 k4
  have b4 := F4.binds (ps := ["letters", "value"]) fun _ _ _ _ _ _ us hl => match us, hl with | [_, _], _ => rfl
  have F5 := fun_mk (st := s_is_word) l5 c_5 k5
  have b5 := F5.binds (ps := ["letters", "value"]) fun _ _ _ _ _ _ us hl => match us, hl with | [_, _], _ => rfl
  have F6 := fun_mk (st := s_is_word_up_to) l6 c_6 k6
  have b6 := F6.binds (ps := ["letters", "value", "most"]) fun _ _ _ _ _ _ us hl => match us, hl with | [_, _, _], _ => rfl
  have F7 := fun_mk (st := s_check_letters) l7 c_7 k7
  have b7 := F7.binds (ps := ["letters"]) fun _ _ _ _ _ _ us hl => match us, hl with | [_], _ => rfl
  have F8 := fun_mk (st := s_word_key) l8 c_8 k8
  have b8 := F8.binds (ps := ["word"]) fun _ _ _ _ _ _ us hl => match us, hl with | [_], _ => rfl
  have F9 := fun_mk (st := s_show_word) l9 c_9 k9
  have b9 := F9.binds (ps := ["word"]) fun _ _ _ _ _ _ us hl => match us, hl with | [_], _ => rfl
  have F10 := fun_mk (st := s_is_pair) l10 c_10 k10
  have b10 := F10.binds (ps := ["value", "write", "size"]) fun _ _ _ _ _ _ us hl => match us, hl with | [_, _, _], _ => rfl
  have F11 := fun_mk (st := s_is_arc) l11 c_11 k11
  have b11 := F11.binds (ps := ["value", "read", "write", "size"]) fun _ _ _ _ _ _ us hl => match us, hl with | [_, _, _, _], _ => rfl
  have F12 := fun_mk (st := s_pair_key) l12 c_12 k12
  have b12 := F12.binds (ps := ["pair"]) fun _ _ _ _ _ _ us hl => match us, hl with | [_], _ => rfl
  have F13 := fun_mk (st := s_arc_key) l13 c_13 k13
  have b13 := F13.binds (ps := ["arc"]) fun _ _ _ _ _ _ us hl => match us, hl with | [_], _ => rfl
  have F14 := fun_mk (st := s_check_many) l14 c_14 k14
  have b14 := F14.binds (ps := ["place", "entries"]) fun _ _ _ _ _ _ us hl => match us, hl with | [_, _], _ => rfl
  have F15 := fun_mk (st := s_checked_pairs) l15 c_15 k15
  have b15 := F15.binds (ps := ["place", "entries", "write", "size"]) fun _ _ _ _ _ _ us hl => match us, hl with | [_, _, _, _], _ => rfl
  have F16 := fun_mk (st := s_checked_arcs) l16 c_16 k16
  have b16 := F16.binds (ps := ["entries", "read", "write", "size"]) fun _ _ _ _ _ _ us hl => match us, hl with | [_, _, _, _], _ => rfl
  have F17 := fun_mk (st := s_renumber) l17 c_17 k17
  have b17 := F17.binds (ps := ["machine", "order"]) fun _ _ _ _ _ _ us hl => match us, hl with | [_, _], _ => rfl
  have F18 := fun_mk (st := s_moved_machine) l18 c_18 k18
  have b18 := F18.binds (ps := ["machine", "size", "numbers"]) fun _ _ _ _ _ _ us hl => match us, hl with | [_, _, _], _ => rfl
  have F19 := fun_mk (st := s_moved_pairs) l19 c_19 k19
  have b19 := F19.binds (ps := ["pairs", "numbers"]) fun _ _ _ _ _ _ us hl => match us, hl with | [_, _], _ => rfl
  have F20 := fun_mk (st := s_moved_arcs) l20 c_20 k20
  have b20 := F20.binds (ps := ["arcs", "numbers"]) fun _ _ _ _ _ _ us hl => match us, hl with | [_, _], _ => rfl
  have F21 := fun_mk (st := s_show_machine) l21 c_21 k21
  have b21 := F21.binds (ps := ["machine"]) fun _ _ _ _ _ _ us hl => match us, hl with | [_], _ => rfl
  have F22 := fun_mk (st := s_mix) l22 c_22 k22
  have b22 := F22.binds (ps := ["number", "tick"]) fun _ _ _ _ _ _ us hl => match us, hl with | [_, _], _ => rfl
  have F23 := fun_mk (st := s_store) l23 c_23 k23
  have b23 := F23.binds (ps := ["script"]) fun _ _ _ _ _ _ us hl => match us, hl with | [_], _ => rfl
  have F24 := fun_mk (st := s_take) l24 c_24 k24
  have b24 := F24.binds (ps := ["store", "many"]) fun _ _ _ _ _ _ us hl => match us, hl with | [_, _], _ => rfl
  have F25 := fun_mk (st := s_pick) l25 c_25 k25
  have b25 := F25.binds (ps := ["store", "row"]) fun _ _ _ _ _ _ us hl => match us, hl with | [_, _], _ => rfl
  have F26 := fun_mk (st := s_between) l26 c_26 k26
  have b26 := F26.binds (ps := ["store", "low", "high"]) fun _ _ _ _ _ _ us hl => match us, hl with | [_, _, _], _ => rfl
  have F27 := fun_mk (st := s_order) l27 c_27 k27
  have b27 := F27.binds (ps := ["store", "size"]) fun _ _ _ _ _ _ us hl => match us, hl with | [_, _], _ => rfl
  have F28 := fun_mk (st := s_turned) l28 c_28 k28
  have b28 := F28.binds (ps := ["store", "row"]) fun _ _ _ _ _ _ us hl => match us, hl with | [_, _], _ => rfl
  have F29 := fun_mk (st := s_repeated) l29 c_29 k29
  have b29 := F29.binds (ps := ["store", "row", "size"]) fun _ _ _ _ _ _ us hl => match us, hl with | [_, _, _], _ => rfl
  have F30 := fun_mk (st := s_not_number) l30 c_30 k30
  have b30 := F30.binds (ps := ["store", "low", "high"]) fun _ _ _ _ _ _ us hl => match us, hl with | [_, _, _], _ => rfl
  have F31 := fun_mk (st := s_letters) l31 c_31 k31
  have b31 := F31.binds (ps := ["store", "limit"]) fun _ _ _ _ _ _ us hl => match us, hl with | [_, _], _ => rfl
  have F32 := fun_mk (st := s_word) l32 c_32 k32
  have b32 := F32.binds (ps := ["store", "letters", "limit"]) fun _ _ _ _ _ _ us hl => match us, hl with | [_, _, _], _ => rfl
  have F33 := fun_mk (st := s_unlike_word) l33 c_33 k33
  have b33 := F33.binds (ps := ["store", "letters", "word"]) fun _ _ _ _ _ _ us hl => match us, hl with | [_, _, _], _ => rfl
  have F34 := fun_mk (st := s_arc) l34 c_34 k34
  have b34 := F34.binds (ps := ["store", "read", "write", "size", "longest"]) fun _ _ _ _ _ _ us hl => match us, hl with | [_, _, _, _, _], _ => rfl
  have F35 := fun_mk (st := s_machine) l35 c_35 k35
  have b35 := F35.binds (ps := ["store", "read", "write", "limit"]) fun _ _ _ _ _ _ us hl => match us, hl with | [_, _, _, _], _ => rfl
  have F36 := fun_mk (st := s_renamed) l36 c_36 k36
  have b36 := F36.binds (ps := ["parts", "order"]) fun _ _ _ _ _ _ us hl => match us, hl with | [_, _], _ => rfl
  have F37 := fun_mk (st := s_bad_order) l37 c_37 k37
  have b37 := F37.binds (ps := ["store", "size"]) fun _ _ _ _ _ _ us hl => match us, hl with | [_, _], _ => rfl
  have F38 := fun_mk (st := s_shown) l38 c_38 k38
  have b38 := F38.binds (ps := ["word"]) fun _ _ _ _ _ _ us hl => match us, hl with | [_], _ => rfl
  have F39 := fun_mk (st := s_tidy) l39 c_39 k39
  have b39 := F39.binds (ps := ["parts"]) fun _ _ _ _ _ _ us hl => match us, hl with | [_], _ => rfl
  have F40 := fun_mk (st := s_entry_key) l40 c_40 k40
  have b40 := F40.binds (ps := ["entry"]) fun _ _ _ _ _ _ us hl => match us, hl with | [_], _ => rfl
  have F41 := fun_mk (st := s_machine_rows) l41 c_41 k41
  have b41 := F41.binds (ps := ["parts"]) fun _ _ _ _ _ _ us hl => match us, hl with | [_], _ => rfl
  have F42 := fun_mk (st := s_joined) l42 c_42 k42
  have b42 := F42.binds (ps := ["rows"]) fun _ _ _ _ _ _ us hl => match us, hl with | [_], _ => rfl
  have F43 := fun_mk (st := s_same) l43 c_43 k43
  have b43 := F43.binds (ps := ["actual", "expected"]) fun _ _ _ _ _ _ us hl => match us, hl with | [_, _], _ => rfl
  have F44 := fun_mk (st := s_copy) l44 c_44 k44
  have b44 := F44.binds (ps := ["value"]) fun _ _ _ _ _ _ us hl => match us, hl with | [_], _ => rfl
  have F45 := fun_mk (st := s_machine_of) l45 c_45 k45
  have b45 := F45.binds (ps := ["parts"]) fun _ _ _ _ _ _ us hl => match us, hl with | [_], _ => rfl
  have F46 := fun_mk (st := s_parts_of) l46 c_46 k46
  have b46 := F46.binds (ps := ["machine"]) fun _ _ _ _ _ _ us hl => match us, hl with | [_], _ => rfl
  have F47 := fun_mk (st := s_error) l47 c_47 k47
  have b47 := F47.binds (ps := ["action"]) fun _ _ _ _ _ _ us hl => match us, hl with | [_], _ => rfl
  have F48 := fun_mk (st := s_some_order) l48 c_48 k48
  have b48 := F48.binds (ps := ["store", "size"]) fun _ _ _ _ _ _ us hl => match us, hl with | [_, _], _ => rfl
  have F49 := fun_mk (st := s_moves_all) l49 c_49 k49
  have b49 := F49.binds (ps := ["machine", "parts", "order"]) fun _ _ _ _ _ _ us hl => match us, hl with | [_, _, _], _ => rfl
  have F50 := fun_mk (st := s_refuses) l50 c_50 k50
  have b50 := F50.binds (ps := ["store", "machine", "size"]) fun _ _ _ _ _ _ us hl => match us, hl with | [_, _, _], _ => rfl
  have F51 := fun_mk (st := s_law) l51 c_51 k51
  have b51 := F51.binds (ps := ["script"]) fun _ _ _ _ _ _ us hl => match us, hl with | [_], _ => rfl
  have FI1 := fun_mk (st := si_BadLetters) lI1 cI1 kI1
  have bI1 := FI1.binds (ps := ["self", "value"]) fun _ _ _ _ _ _ us hl => match us, hl with | [_, _], _ => rfl
  have FI2 := fun_mk (st := si_BadWord) lI2 cI2 kI2
  have bI2 := FI2.binds (ps := ["self", "value"]) fun _ _ _ _ _ _ us hl => match us, hl with | [_, _], _ => rfl
  have FI3 := fun_mk (st := si_BadNumber) lI3 cI3 kI3
  have bI3 := FI3.binds (ps := ["self", "value"]) fun _ _ _ _ _ _ us hl => match us, hl with | [_, _], _ => rfl
  have FI4 := fun_mk (st := si_BadEntry) lI4 cI4 kI4
  have bI4 := FI4.binds (ps := ["self", "place", "index"]) fun _ _ _ _ _ _ us hl => match us, hl with | [_, _, _], _ => rfl
  have FI6 := fun_mk (st := si_TooLarge) lI6 cI6 kI6
  have bI6 := FI6.binds (ps := ["self", "what", "limit"]) fun _ _ _ _ _ _ us hl => match us, hl with | [_, _, _], _ => rfl
  have MF0 := fun_mk (st := s_Machine___init__) ml0 mc0 mk0
  have FD0 : FunD K "__init__" "Machine.__init__" (defArgs s_Machine___init__) (defBody s_Machine___init__) (defScope s_Machine___init__) [] ([("begins", V.ref mt0_begins), ("arcs", V.ref mt0_arcs), ("ends", V.ref mt0_ends)] : List (Str × V)) mf0 (PySem.W.fnOf "__init__" "Machine.__init__" (defArgs s_Machine___init__) (defBody s_Machine___init__) (defScope s_Machine___init__) .none (.ref mD0) mdc0 mpm0 man0 mcd0 mct0) := ⟨⟨_, _, .none, .ref mD0, _, _, _, _, _, _, rfl, ml0, mc0, .inl ⟨rfl, rfl⟩, .inr ⟨mD0, rfl, List.forall_mem_cons.mpr ⟨⟨_, mq0_begins, rfl⟩, List.forall_mem_cons.mpr ⟨⟨_, mq0_arcs, rfl⟩, List.forall_mem_cons.mpr ⟨⟨_, mq0_ends, rfl⟩, (fun _ h => nomatch h)⟩⟩⟩⟩⟩, mk0⟩
  obtain ⟨mv0_0, mb0_0⟩ := FD0.kbinds0 (ps := ["self", "read", "write", "size", "begins", "arcs", "ends"]) 4 ["begins", "arcs", "ends"] ([] : List (Str × V)) (fun us mv ws => us ++ (((ws.drop 0).take 1) ++ (((ws.drop 1).take 1) ++ (((ws.drop 2).take 1))))) (by simp) (by simp) (fun r1 r2 r3 => r1.append ((vals_take1 (r3.drop 0)).append ((vals_take1 (r3.drop 1)).append ((vals_take1 (r3.drop 2)))))) fun D _ _ _ _ _ us mv ws h1 h2 h3 => match us, mv, ws, h1, h2, h3 with | [_, _, _, _], [], [_, _, _], _, _, _ => rfl
  have MF1 := fun_mk (st := s_Machine_read) ml1 mc1 mk1
  have mb1 := MF1.binds (ps := ["self"]) fun _ _ _ _ _ _ us hl => match us, hl with | [_], _ => rfl
  have MF2 := fun_mk (st := s_Machine_write) ml2 mc2 mk2
  have mb2 := MF2.binds (ps := ["self"]) fun _ _ _ _ _ _ us hl => match us, hl with | [_], _ => rfl
  have MF3 := fun_mk (st := s_Machine_size) ml3 mc3 mk3
  have mb3 := MF3.binds (ps := ["self"]) fun _ _ _ _ _ _ us hl => match us, hl with | [_], _ => rfl
  have MF4 := fun_mk (st := s_Machine_begins) ml4 mc4 mk4
  have mb4 := MF4.binds (ps := ["self"]) fun _ _ _ _ _ _ us hl => match us, hl with | [_], _ => rfl
  have MF5 := fun_mk (st := s_Machine_arcs) ml5 mc5 mk5
  have mb5 := MF5.binds (ps := ["self"]) fun _ _ _ _ _ _ us hl => match us, hl with | [_], _ => rfl
  have MF6 := fun_mk (st := s_Machine_ends) ml6 mc6 mk6
  have mb6 := MF6.binds (ps := ["self"]) fun _ _ _ _ _ _ us hl => match us, hl with | [_], _ => rfl
  have MF7 := fun_mk (st := s_Machine___len__) ml7 mc7 mk7
  have mb7 := MF7.binds (ps := ["self"]) fun _ _ _ _ _ _ us hl => match us, hl with | [_], _ => rfl
  have MF8 := fun_mk (st := s_Machine___iter__) ml8 mc8 mk8
  have mb8 := MF8.binds (ps := ["self"]) fun _ _ _ _ _ _ us hl => match us, hl with | [_], _ => rfl
  letI : Tabl := ⟨([(P3, (Str.ofString "is_letters" ++ ".<locals>.") ++ "<genexpr>"), (P5, (Str.ofString "is_word" ++ ".<locals>.") ++ "<genexpr>"), (P50, (Str.ofString "_law_refuses" ++ ".<locals>.") ++ "<lambda>")] : List (Addr × Str)), one⟩
  refine ⟨_, [(c3, P3), (c5, P5), (c50, P50)], sp_law K, List.forall_mem_cons.mpr ⟨E _ _ _ _ _ _ _ _ _ _ y3 (PySem.W.mg_of X G a3) l3 rfl rfl r3 p3, List.forall_mem_cons.mpr ⟨E _ _ _ _ _ _ _ _ _ _ y5 (PySem.W.mg_of X G a5) l5 rfl rfl r5 p5, List.forall_mem_cons.mpr ⟨E _ _ _ _ _ _ _ _ _ _ y50 (PySem.W.mg_of X G a50) l50 rfl rfl r50 p50, (fun _ h => nomatch h)⟩⟩⟩, List.forall_mem_cons.mpr ⟨n3, List.forall_mem_cons.mpr ⟨n5, List.forall_mem_cons.mpr ⟨n50, (fun _ h => nomatch h)⟩⟩⟩, List.forall_mem_cons.mpr ⟨PySem.W.codeHd_of_K X h3, List.forall_mem_cons.mpr ⟨PySem.W.codeHd_of_K X h5, List.forall_mem_cons.mpr ⟨PySem.W.codeHd_of_K X h50, (fun _ h => nomatch h)⟩⟩⟩, fun s v => .of_eq rfl, fun H a ns hl _ hT hS => ⟨a, ns, rfl, hS, hl, List.forall_mem_cons.mpr ⟨LamX.TabS.nil (hT (c3, P3) (List.Mem.head _)), List.forall_mem_cons.mpr ⟨LamX.TabS.nil (hT (c5, P5) (List.Mem.tail _ (List.Mem.head _))), List.forall_mem_cons.mpr ⟨LamX.TabS.nil (hT (c50, P50) (List.Mem.tail _ (List.Mem.tail _ (List.Mem.head _)))), (fun _ h => nomatch h)⟩⟩⟩, fun _ => rfl⟩, fun base _ _ tb => ok_law (K := K) (mg := mg) { f_is_whole := _, fd_is_whole := _, F_is_whole := F0, b_is_whole := b0, g_is_whole := PySem.W.mg_of X G a0, f_in_range := _, fd_in_range := _, F_in_range := F1, b_in_range := b1, g_in_range := PySem.W.mg_of X G a1, f_check_number := _, fd_check_number := _, F_check_number := F2, b_check_number := b2, g_check_number := PySem.W.mg_of X G a2, f_is_letters := _, fd_is_letters := _, C_is_letters := c3, P_is_letters := P3, F_is_letters := ⟨F3, rfl⟩, B_is_letters := tb (c3, P3) (List.Mem.head _), m_is_letters := (List.Mem.head _), b_is_letters := b3, g_is_letters := PySem.W.mg_of X G a3, f_is_letter := _, fd_is_letter := _, F_is_letter := F4, b_is_letter := b4, g_is_letter := PySem.W.mg_of X G a4, f_is_word := _, fd_is_word := _, C_is_word := c5, P_is_word := P5, F_is_word := ⟨F5, rfl⟩, B_is_word := tb (c5, P5) (List.Mem.tail _ (List.Mem.head _)), m_is_word := (List.Mem.tail _ (List.Mem.head _)), b_is_word := b5, g_is_word := PySem.W.mg_of X G a5, f_is_word_up_to := _, fd_is_word_up_to := _, F_is_word_up_to := F6, b_is_word_up_to := b6, g_is_word_up_to := PySem.W.mg_of X G a6, f_check_letters := _, fd_check_letters := _, F_check_letters := F7, b_check_letters := b7, g_check_letters := PySem.W.mg_of X G a7, f_word_key := _, fd_word_key := _, F_word_key := F8, b_word_key := b8, g_word_key := PySem.W.mg_of X G a8, f_show_word := _, fd_show_word := _, F_show_word := F9, b_show_word := b9, g_show_word := PySem.W.mg_of X G a9, f_is_pair := _, fd_is_pair := _, F_is_pair := F10, b_is_pair := b10, g_is_pair := PySem.W.mg_of X G a10, f_is_arc := _, fd_is_arc := _, F_is_arc := F11, b_is_arc := b11, g_is_arc := PySem.W.mg_of X G a11, f_pair_key := _, fd_pair_key := _, F_pair_key := F12, b_pair_key := b12, g_pair_key := PySem.W.mg_of X G a12, f_arc_key := _, fd_arc_key := _, F_arc_key := F13, b_arc_key := b13, g_arc_key := PySem.W.mg_of X G a13, f_check_many := _, fd_check_many := _, F_check_many := F14, b_check_many := b14, g_check_many := PySem.W.mg_of X G a14, f_checked_pairs := _, fd_checked_pairs := _, F_checked_pairs := F15, b_checked_pairs := b15, g_checked_pairs := PySem.W.mg_of X G a15, f_checked_arcs := _, fd_checked_arcs := _, F_checked_arcs := F16, b_checked_arcs := b16, g_checked_arcs := PySem.W.mg_of X G a16, f_renumber := _, fd_renumber := _, F_renumber := F17, b_renumber := b17, g_renumber := PySem.W.mg_of X G a17, f_moved_machine := _, fd_moved_machine := _, F_moved_machine := F18, b_moved_machine := b18, g_moved_machine := PySem.W.mg_of X G a18, f_moved_pairs := _, fd_moved_pairs := _, F_moved_pairs := F19, b_moved_pairs := b19, g_moved_pairs := PySem.W.mg_of X G a19, f_moved_arcs := _, fd_moved_arcs := _, F_moved_arcs := F20, b_moved_arcs := b20, g_moved_arcs := PySem.W.mg_of X G a20, f_show_machine := _, fd_show_machine := _, F_show_machine := F21, b_show_machine := b21, g_show_machine := PySem.W.mg_of X G a21, f_mix := _, fd_mix := _, F_mix := F22, b_mix := b22, g_mix := PySem.W.mg_of X G a22, f_store := _, fd_store := _, F_store := F23, b_store := b23, g_store := PySem.W.mg_of X G a23, f_take := _, fd_take := _, F_take := F24, b_take := b24, g_take := PySem.W.mg_of X G a24, f_pick := _, fd_pick := _, F_pick := F25, b_pick := b25, g_pick := PySem.W.mg_of X G a25, f_between := _, fd_between := _, F_between := F26, b_between := b26, g_between := PySem.W.mg_of X G a26, f_order := _, fd_order := _, F_order := F27, b_order := b27, g_order := PySem.W.mg_of X G a27, f_turned := _, fd_turned := _, F_turned := F28, b_turned := b28, g_turned := PySem.W.mg_of X G a28, f_repeated := _, fd_repeated := _, F_repeated := F29, b_repeated := b29, g_repeated := PySem.W.mg_of X G a29, f_not_number := _, fd_not_number := _, F_not_number := F30, b_not_number := b30, g_not_number := PySem.W.mg_of X G a30, f_letters := _, fd_letters := _, F_letters := F31, b_letters := b31, g_letters := PySem.W.mg_of X G a31, f_word := _, fd_word := _, F_word := F32, b_word := b32, g_word := PySem.W.mg_of X G a32, f_unlike_word := _, fd_unlike_word := _, F_unlike_word := F33, b_unlike_word := b33, g_unlike_word := PySem.W.mg_of X G a33, f_arc := _, fd_arc := _, F_arc := F34, b_arc := b34, g_arc := PySem.W.mg_of X G a34, f_machine := _, fd_machine := _, F_machine := F35, b_machine := b35, g_machine := PySem.W.mg_of X G a35, f_renamed := _, fd_renamed := _, F_renamed := F36, b_renamed := b36, g_renamed := PySem.W.mg_of X G a36, f_bad_order := _, fd_bad_order := _, F_bad_order := F37, b_bad_order := b37, g_bad_order := PySem.W.mg_of X G a37, f_shown := _, fd_shown := _, F_shown := F38, b_shown := b38, g_shown := PySem.W.mg_of X G a38, f_tidy := _, fd_tidy := _, F_tidy := F39, b_tidy := b39, g_tidy := PySem.W.mg_of X G a39, f_entry_key := _, fd_entry_key := _, F_entry_key := F40, b_entry_key := b40, g_entry_key := PySem.W.mg_of X G a40, f_machine_rows := _, fd_machine_rows := _, F_machine_rows := F41, b_machine_rows := b41, g_machine_rows := PySem.W.mg_of X G a41, f_joined := _, fd_joined := _, F_joined := F42, b_joined := b42, g_joined := PySem.W.mg_of X G a42, f_same := _, fd_same := _, F_same := F43, b_same := b43, g_same := PySem.W.mg_of X G a43, f_copy := _, fd_copy := _, F_copy := F44, b_copy := b44, g_copy := PySem.W.mg_of X G a44, f_machine_of := _, fd_machine_of := _, F_machine_of := F45, b_machine_of := b45, g_machine_of := PySem.W.mg_of X G a45, f_parts_of := _, fd_parts_of := _, F_parts_of := F46, b_parts_of := b46, g_parts_of := PySem.W.mg_of X G a46, f_error := _, fd_error := _, F_error := F47, b_error := b47, g_error := PySem.W.mg_of X G a47, f_some_order := _, fd_some_order := _, F_some_order := F48, b_some_order := b48, g_some_order := PySem.W.mg_of X G a48, f_moves_all := _, fd_moves_all := _, F_moves_all := F49, b_moves_all := b49, g_moves_all := PySem.W.mg_of X G a49, f_refuses := _, fd_refuses := _, C_refuses := c50, P_refuses := P50, F_refuses := ⟨F50, rfl⟩, B_refuses := tb (c50, P50) (List.Mem.tail _ (List.Mem.tail _ (List.Mem.head _))), m_refuses := (List.Mem.tail _ (List.Mem.tail _ (List.Mem.head _))), b_refuses := b50, g_refuses := PySem.W.mg_of X G a50, f_law := _, fd_law := _, F_law := F51, b_law := b51, g_law := PySem.W.mg_of X G a51, C_LagError := eC0, E_LagError := ⟨PySem.W.mg_of X G ea0, ⟨⟨_, _, _, _, _, _, _, _, _, _, _, _, _, _, _, el0, er0⟩, esa0, eex0, ety0, ekp0⟩, ⟨ega0, egg0, eex0, ehd0⟩, ⟨ega0, egg0, eex0, ehd0, eca0, sp1, sp2, emr0⟩⟩, C_BadLetters := eC1, E_BadLetters := ⟨PySem.W.mg_of X G ea1, ⟨⟨_, _, _, _, _, _, _, _, _, _, _, _, _, _, _, el1, er1⟩, esa1, eex1, ety1, ekp1⟩, ⟨ega1, egg1, eex1, ehd1⟩, ⟨ega1, egg1, eex1, ehd1, eca1, sp1, sp2, emr1⟩⟩, I_BadLetters := eI1, fdI_BadLetters := _, FI_BadLetters := FI1, bI_BadLetters := bI1, iI_BadLetters := iI1, tI_BadLetters := tI1, no_BadLetters_value := eno1_value, C_BadWord := eC2, E_BadWord := ⟨PySem.W.mg_of X G ea2, ⟨⟨_, _, _, _, _, _, _, _, _, _, _, _, _, _, _, el2, er2⟩, esa2, eex2, ety2, ekp2⟩, ⟨ega2, egg2, eex2, ehd2⟩, ⟨ega2, egg2, eex2, ehd2, eca2, sp1, sp2, emr2⟩⟩, I_BadWord := eI2, fdI_BadWord := _, FI_BadWord := FI2, bI_BadWord := bI2, iI_BadWord := iI2, tI_BadWord := tI2, no_BadWord_value := eno2_value, C_BadNumber := eC3, E_BadNumber := ⟨PySem.W.mg_of X G ea3, ⟨⟨_, _, _, _, _, _, _, _, _, _, _, _, _, _, _, el3, er3⟩, esa3, eex3, ety3, ekp3⟩, ⟨ega3, egg3, eex3, ehd3⟩, ⟨ega3, egg3, eex3, ehd3, eca3, sp1, sp2, emr3⟩⟩, I_BadNumber := eI3, fdI_BadNumber := _, FI_BadNumber := FI3, bI_BadNumber := bI3, iI_BadNumber := iI3, tI_BadNumber := tI3, no_BadNumber_value := eno3_value, C_BadEntry := eC4, E_BadEntry := ⟨PySem.W.mg_of X G ea4, ⟨⟨_, _, _, _, _, _, _, _, _, _, _, _, _, _, _, el4, er4⟩, esa4, eex4, ety4, ekp4⟩, ⟨ega4, egg4, eex4, ehd4⟩, ⟨ega4, egg4, eex4, ehd4, eca4, sp1, sp2, emr4⟩⟩, I_BadEntry := eI4, fdI_BadEntry := _, FI_BadEntry := FI4, bI_BadEntry := bI4, iI_BadEntry := iI4, tI_BadEntry := tI4, no_BadEntry_place := eno4_place, no_BadEntry_index := eno4_index, C_Mismatch := eC5, E_Mismatch := ⟨PySem.W.mg_of X G ea5, ⟨⟨_, _, _, _, _, _, _, _, _, _, _, _, _, _, _, el5, er5⟩, esa5, eex5, ety5, ekp5⟩, ⟨ega5, egg5, eex5, ehd5⟩, ⟨ega5, egg5, eex5, ehd5, eca5, sp1, sp2, emr5⟩⟩, C_TooLarge := eC6, E_TooLarge := ⟨PySem.W.mg_of X G ea6, ⟨⟨_, _, _, _, _, _, _, _, _, _, _, _, _, _, _, el6, er6⟩, esa6, eex6, ety6, ekp6⟩, ⟨ega6, egg6, eex6, ehd6⟩, ⟨ega6, egg6, eex6, ehd6, eca6, sp1, sp2, emr6⟩⟩, I_TooLarge := eI6, fdI_TooLarge := _, FI_TooLarge := FI6, bI_TooLarge := bI6, iI_TooLarge := iI6, tI_TooLarge := tI6, no_TooLarge_what := eno6_what, no_TooLarge_limit := eno6_limit, C_Machine := oC0, cl_Machine := ⟨opg0, ohd0, opo0, osa0⟩, mg_Machine := PySem.W.mg_of X G oa0, no_Machine__read := on0__read, no_Machine__write := on0__write, no_Machine__size := on0__size, no_Machine__begins := on0__begins, no_Machine__arcs := on0__arcs, no_Machine__ends := on0__ends, f_Machine___init__ := mf0, fd_Machine___init__ := _, F_Machine___init__ := MF0, M_Machine := ⟨omk0, ma0, mi0, okc0⟩, kt_Machine_begins := mt0_begins, ke_Machine_begins := ⟨_, _, mz0_begins, rfl, rfl⟩, kt_Machine_arcs := mt0_arcs, ke_Machine_arcs := ⟨_, _, mz0_arcs, rfl, rfl⟩, kt_Machine_ends := mt0_ends, ke_Machine_ends := ⟨_, _, mz0_ends, rfl, rfl⟩, ka_Machine_0 := mv0_0, kb_Machine_0 := mb0_0, f_Machine_read := mf1, fd_Machine_read := _, F_Machine_read := MF1, b_Machine_read := mb1, pa_Machine_read := mp1, p_Machine_read := ⟨ma1, mgt1, mtk1, ⟨_, mrc1⟩⟩, f_Machine_write := mf2, fd_Machine_write := _, F_Machine_write := MF2, b_Machine_write := mb2, pa_Machine_write := mp2, p_Machine_write := ⟨ma2, mgt2, mtk2, ⟨_, mrc2⟩⟩, f_Machine_size := mf3, fd_Machine_size := _, F_Machine_size := MF3, b_Machine_size := mb3, pa_Machine_size := mp3, p_Machine_size := ⟨ma3, mgt3, mtk3, ⟨_, mrc3⟩⟩, f_Machine_begins := mf4, fd_Machine_begins := _, F_Machine_begins := MF4, b_Machine_begins := mb4, pa_Machine_begins := mp4, p_Machine_begins := ⟨ma4, mgt4, mtk4, ⟨_, mrc4⟩⟩, f_Machine_arcs := mf5, fd_Machine_arcs := _, F_Machine_arcs := MF5, b_Machine_arcs := mb5, pa_Machine_arcs := mp5, p_Machine_arcs := ⟨ma5, mgt5, mtk5, ⟨_, mrc5⟩⟩, f_Machine_ends := mf6, fd_Machine_ends := _, F_Machine_ends := MF6, b_Machine_ends := mb6, pa_Machine_ends := mp6, p_Machine_ends := ⟨ma6, mgt6, mtk6, ⟨_, mrc6⟩⟩, f_Machine___len__ := mf7, fd_Machine___len__ := _, F_Machine___len__ := MF7, b_Machine___len__ := mb7, h_Machine___len__ := ma7, i_Machine___len__ := mi7, f_Machine___iter__ := mf8, fd_Machine___iter__ := _, F_Machine___iter__ := MF8, b_Machine___iter__ := mb8, h_Machine___iter__ := ma8, i_Machine___iter__ := mi8, k_BadNumber_BadEntry := kitN cl_BadEntry ety4 s_BadNumber_BadEntry ss_BadEntry, k_BadNumber_BadLetters := kitN cl_BadLetters ety1 s_BadNumber_BadLetters ss_BadLetters, k_BadNumber_BadNumber := kitY cl_BadNumber ety3 ss_BadNumber, k_BadNumber_BadWord := kitN cl_BadWord ety2 s_BadNumber_BadWord ss_BadWord, k_BadNumber_Mismatch := kitN cl_Mismatch ety5 s_BadNumber_Mismatch ss_Mismatch, k_BadNumber_TooLarge := kitN cl_TooLarge ety6 s_BadNumber_TooLarge ss_TooLarge, k_BadNumber_ValueError := kitB (by decide +kernel) s_BadNumber_ValueError, x_BadNumber_LagError := exmR eex0 cl_LagError ety0 s_BadNumber_LagError, k_BadLetters_BadEntry := kitN cl_BadEntry ety4 s_BadLetters_BadEntry ss_BadEntry, k_BadLetters_BadLetters := kitY cl_BadLetters ety1 ss_BadLetters, k_BadLetters_BadNumber := kitN cl_BadNumber ety3 s_BadLetters_BadNumber ss_BadNumber, k_BadLetters_BadWord := kitN cl_BadWord ety2 s_BadLetters_BadWord ss_BadWord, k_BadLetters_Mismatch := kitN cl_Mismatch ety5 s_BadLetters_Mismatch ss_Mismatch, k_BadLetters_TooLarge := kitN cl_TooLarge ety6 s_BadLetters_TooLarge ss_TooLarge, k_BadLetters_ValueError := kitB (by decide +kernel) s_BadLetters_ValueError, x_BadLetters_LagError := exmR eex0 cl_LagError ety0 s_BadLetters_LagError, k_BadEntry_BadEntry := kitY cl_BadEntry ety4 ss_BadEntry, k_BadEntry_BadLetters := kitN cl_BadLetters ety1 s_BadEntry_BadLetters ss_BadLetters, k_BadEntry_BadNumber := kitN cl_BadNumber ety3 s_BadEntry_BadNumber ss_BadNumber, k_BadEntry_BadWord := kitN cl_BadWord ety2 s_BadEntry_BadWord ss_BadWord, k_BadEntry_Mismatch := kitN cl_Mismatch ety5 s_BadEntry_Mismatch ss_Mismatch, k_BadEntry_TooLarge := kitN cl_TooLarge ety6 s_BadEntry_TooLarge ss_TooLarge, k_BadEntry_ValueError := kitB (by decide +kernel) s_BadEntry_ValueError, x_BadEntry_LagError := exmR eex0 cl_LagError ety0 s_BadEntry_LagError, k_TooLarge_BadEntry := kitN cl_BadEntry ety4 s_TooLarge_BadEntry ss_BadEntry, k_TooLarge_BadLetters := kitN cl_BadLetters ety1 s_TooLarge_BadLetters ss_BadLetters, k_TooLarge_BadNumber := kitN cl_BadNumber ety3 s_TooLarge_BadNumber ss_BadNumber, k_TooLarge_BadWord := kitN cl_BadWord ety2 s_TooLarge_BadWord ss_BadWord, k_TooLarge_Mismatch := kitN cl_Mismatch ety5 s_TooLarge_Mismatch ss_Mismatch, k_TooLarge_TooLarge := kitY cl_TooLarge ety6 ss_TooLarge, k_TooLarge_ValueError := kitB (by decide +kernel) s_TooLarge_ValueError, x_TooLarge_LagError := exmR eex0 cl_LagError ety0 s_TooLarge_LagError, z_ValueError := PySem.W.mg_none_of X G z_ValueError, z_all := PySem.W.mg_none_of X G z_all, z_bool := PySem.W.mg_none_of X G z_bool, z_dict := PySem.W.mg_none_of X G z_dict, z_enumerate := PySem.W.mg_none_of X G z_enumerate, z_int := PySem.W.mg_none_of X G z_int, z_isinstance := PySem.W.mg_none_of X G z_isinstance, z_iter := PySem.W.mg_none_of X G z_iter, z_len := PySem.W.mg_none_of X G z_len, z_list := PySem.W.mg_none_of X G z_list, z_max := PySem.W.mg_none_of X G z_max, z_min := PySem.W.mg_none_of X G z_min, z_range := PySem.W.mg_none_of X G z_range, z_set := PySem.W.mg_none_of X G z_set, z_sorted := PySem.W.mg_none_of X G z_sorted, z_str := PySem.W.mg_none_of X G z_str, z_tuple := PySem.W.mg_none_of X G z_tuple, t_MAX_LETTERS := t_MAX_LETTERS, c_MAX_LETTERS := PySem.W.mg_of X G c_MAX_LETTERS, t_MAX_WRITTEN := t_MAX_WRITTEN, c_MAX_WRITTEN := PySem.W.mg_of X G c_MAX_WRITTEN, t_MAX_STATES := t_MAX_STATES, c_MAX_STATES := PySem.W.mg_of X G c_MAX_STATES, t_MAX_ENTRIES := t_MAX_ENTRIES, c_MAX_ENTRIES := PySem.W.mg_of X G c_MAX_ENTRIES, t_SMALL_LETTERS := t_SMALL_LETTERS, c_SMALL_LETTERS := PySem.W.mg_of X G c_SMALL_LETTERS }⟩
end Lb
open PySem PySem.W PyProof.Rows
set_option maxHeartbeats 0 in
theorem PySem.Challenge.cw_lagbound_k21_renumber_a_machine_holds : PySem.Challenge.rw_lagbound_k21_renumber_a_machine.Holds := by
  w_on; o_law; k_head; (case hw => w_witness2)
  k_fill
  refine Lb.walk_tabs (l := PySem.Challenge.rw_lagbound_k21_renumber_a_machine) (n := 63) (k := 17 + 1) (x := "script") (CX := fun _ => L2.CX0) rfl (by decide) rfl ⟨rfl, by decide, by decide⟩ (fun w h Y => by first | exact PySem.W.kIn_of Y | exact Y.1) ?F (fun _ _ _ _ _ h => h)
  case F =>
    intro w mg fa h KX G hmg E
    refine' Lb.all_mk KX G hmg E ?a0 ?l0 ?k0 ?c_0 ?a1 ?l1 ?k1 ?c_1 ?a2 ?l2 ?k2 ?c_2 ?a3 ?l3 ?k3 ?c_3 ?r3 ?p3 ?n3 ?h3 ?y3 ?a4 ?l4 ?k4 ?c_4 ?a5 ?l5 ?k5 ?c_5 ?r5 ?p5 ?n5 ?h5 ?y5 ?a6 ?l6 ?k6 ?c_6 ?a7 ?l7 ?k7 ?c_7 ?a8 ?l8 ?k8 ?c_8 ?a9 ?l9 ?k9 ?c_9 ?a10 ?l10 ?k10 ?c_10 ?a11 ?l11 ?k11 ?c_11 ?a12 ?l12 ?k12 ?c_12 ?a13 ?l13 ?k13 ?c_13 ?a14 ?l14 ?k14 ?c_14 ?a15 ?l15 ?k15 ?c_15 ?a16 ?l16 ?k16 ?c_16 ?a17 ?l17 ?k17 ?c_17 ?a18 ?l18 ?k18 ?c_18 ?a19 ?l19 ?k19 ?c_19 ?a20 ?l20 ?k20 ?c_20 ?a21 ?l21 ?k21 ?c_21 ?a22 ?l22 ?k22 ?c_22 ?a23 ?l23 ?k23 ?c_23 ?a24 ?l24 ?k24 ?c_24 ?a25 ?l25 ?k25 ?c_25 ?a26 ?l26 ?k26 ?c_26 ?a27 ?l27 ?k27 ?c_27 ?a28 ?l28 ?k28 ?c_28 ?a29 ?l29 ?k29 ?c_29 ?a30 ?l30 ?k30 ?c_30 ?a31 ?l31 ?k31 ?c_31 ?a32 ?l32 ?k32 ?c_32 ?a33 ?l33 ?k33 ?c_33 ?a34 ?l34 ?k34 ?c_34 ?a35 ?l35 ?k35 ?c_35 ?a36 ?l36 ?k36 ?c_36 ?a37 ?l37 ?k37 ?c_37 ?a38 ?l38 ?k38 ?c_38 ?a39 ?l39 ?k39 ?c_39 ?a40 ?l40 ?k40 ?c_40 ?a41 ?l41 ?k41 ?c_41 ?a42 ?l42 ?k42 ?c_42 ?a43 ?l43 ?k43 ?c_43 ?a44 ?l44 ?k44 ?c_44 ?a45 ?l45 ?k45 ?c_45 ?a46 ?l46 ?k46 ?c_46 ?a47 ?l47 ?k47 ?c_47 ?a48 ?l48 ?k48 ?c_48 ?a49 ?l49 ?k49 ?c_49 ?a50 ?l50 ?k50 ?c_50 ?r50 ?p50 ?n50 ?h50 ?y50 ?a51 ?l51 ?k51 ?c_51 ?sp1 ?sp2 ?ea0 ?el0 ?er0 ?esa0 ?eex0 ?ety0 ?ekp0 ?ega0 ?egg0 ?ehd0 ?eca0 ?emr0 ?ea1 ?el1 ?er1 ?esa1 ?eex1 ?ety1 ?ekp1 ?ega1 ?egg1 ?ehd1 ?eca1 ?emr1 ?iI1 ?tI1 ?lI1 ?cI1 ?kI1 ?eno1_value ?ea2 ?el2 ?er2 ?esa2 ?eex2 ?ety2 ?ekp2 ?ega2 ?egg2 ?ehd2 ?eca2 ?emr2 ?iI2 ?tI2 ?lI2 ?cI2 ?kI2 ?eno2_value ?ea3 ?el3 ?er3 ?esa3 ?eex3 ?ety3 ?ekp3 ?ega3 ?egg3 ?ehd3 ?eca3 ?emr3 ?iI3 ?tI3 ?lI3 ?cI3 ?kI3 ?eno3_value ?ea4 ?el4 ?er4 ?esa4 ?eex4 ?ety4 ?ekp4 ?ega4 ?egg4 ?ehd4 ?eca4 ?emr4 ?iI4 ?tI4 ?lI4 ?cI4 ?kI4 ?eno4_place ?eno4_index ?ea5 ?el5 ?er5 ?esa5 ?eex5 ?ety5 ?ekp5 ?ega5 ?egg5 ?ehd5 ?eca5 ?emr5 ?ea6 ?el6 ?er6 ?esa6 ?eex6 ?ety6 ?ekp6 ?ega6 ?egg6 ?ehd6 ?eca6 ?emr6 ?iI6 ?tI6 ?lI6 ?cI6 ?kI6 ?eno6_what ?eno6_limit ?cl_BadEntry ?ss_BadEntry ?cl_BadLetters ?ss_BadLetters ?cl_BadNumber ?ss_BadNumber ?cl_BadWord ?ss_BadWord ?cl_Mismatch ?ss_Mismatch ?cl_TooLarge ?ss_TooLarge ?cl_LagError ?ss_LagError ?s_BadNumber_BadEntry ?s_BadNumber_BadLetters ?s_BadNumber_BadWord ?s_BadNumber_Mismatch ?s_BadNumber_TooLarge ?s_BadNumber_ValueError ?s_BadNumber_LagError ?s_BadLetters_BadEntry ?s_BadLetters_BadNumber ?s_BadLetters_BadWord ?s_BadLetters_Mismatch ?s_BadLetters_TooLarge ?s_BadLetters_ValueError ?s_BadLetters_LagError ?s_BadEntry_BadLetters ?s_BadEntry_BadNumber ?s_BadEntry_BadWord ?s_BadEntry_Mismatch ?s_BadEntry_TooLarge ?s_BadEntry_ValueError ?s_BadEntry_LagError ?s_TooLarge_BadEntry ?s_TooLarge_BadLetters ?s_TooLarge_BadNumber ?s_TooLarge_BadWord ?s_TooLarge_Mismatch ?s_TooLarge_ValueError ?s_TooLarge_LagError ?oa0 ?opg0 ?ohd0 ?opo0 ?osa0 ?omk0 ?okc0 ?on0__read ?on0__write ?on0__size ?on0__begins ?on0__arcs ?on0__ends ?ma0 ?mi0 ?ml0 ?mc0 ?mk0 ?mq0_begins ?mz0_begins ?mq0_arcs ?mz0_arcs ?mq0_ends ?mz0_ends ?ma1 ?mgt1 ?mtk1 ?mrc1 ?ml1 ?mc1 ?mk1 ?ma2 ?mgt2 ?mtk2 ?mrc2 ?ml2 ?mc2 ?mk2 ?ma3 ?mgt3 ?mtk3 ?mrc3 ?ml3 ?mc3 ?mk3 ?ma4 ?mgt4 ?mtk4 ?mrc4 ?ml4 ?mc4 ?mk4 ?ma5 ?mgt5 ?mtk5 ?mrc5 ?ml5 ?mc5 ?mk5 ?ma6 ?mgt6 ?mtk6 ?mrc6 ?ml6 ?mc6 ?mk6 ?ma7 ?mi7 ?ml7 ?mc7 ?mk7 ?ma8 ?mi8 ?ml8 ?mc8 ?mk8 ?z_ValueError ?z_all ?z_bool ?z_dict ?z_enumerate ?z_int ?z_isinstance ?z_iter ?z_len ?z_list ?z_max ?z_min ?z_range ?z_set ?z_sorted ?z_str ?z_tuple ?c_MAX_LETTERS ?c_MAX_WRITTEN ?c_MAX_STATES ?c_MAX_ENTRIES ?c_SMALL_LETTERS ?one
    (case a0 => k_is)
    (case l0 => k_is)
    (case k0 => k_is)
    (case c_0 => k_is)
    (case a1 => k_is)
    (case l1 => k_is)
    (case k1 => k_is)
    (case c_1 => k_is)
    (case a2 => k_is)
    (case l2 => k_is)
    (case k2 => k_is)
    (case c_2 => k_is)
    (case a3 => k_is)
    (case l3 => k_is)
    (case k3 => k_is)
    (case c_3 => k_is)
    (case r3 => k_is)
    (case p3 => first | rfl | k_is)
    (case n3 => first | k_is | rfl | decide +kernel)
    (case h3 => kernel_rfl)
    (case y3 => decide +kernel)
    (case a4 => k_is)
    (case l4 => k_is)
    (case k4 => k_is)
    (case c_4 => k_is)
    (case a5 => k_is)
    (case l5 => k_is)
    (case k5 => k_is)
    (case c_5 => k_is)
    (case r5 => k_is)
    (case p5 => first | rfl | k_is)
    (case n5 => first | k_is | rfl | decide +kernel)
    (case h5 => kernel_rfl)
    (case y5 => decide +kernel)
    (case a6 => k_is)
    (case l6 => k_is)
    (case k6 => k_is)
    (case c_6 => k_is)
    (case a7 => k_is)
    (case l7 => k_is)
    (case k7 => k_is)
    (case c_7 => k_is)
    (case a8 => k_is)
    (case l8 => k_is)
    (case k8 => k_is)
    (case c_8 => k_is)
    (case a9 => k_is)
    (case l9 => k_is)
    (case k9 => k_is)
    (case c_9 => k_is)
    (case a10 => k_is)
    (case l10 => k_is)
    (case k10 => k_is)
    (case c_10 => k_is)
    (case a11 => k_is)
    (case l11 => k_is)
    (case k11 => k_is)
    (case c_11 => k_is)
    (case a12 => k_is)
    (case l12 => k_is)
    (case k12 => k_is)
    (case c_12 => k_is)
    (case a13 => k_is)
    (case l13 => k_is)
    (case k13 => k_is)
    (case c_13 => k_is)
    (case a14 => k_is)
    (case l14 => k_is)
    (case k14 => k_is)
    (case c_14 => k_is)
    (case a15 => k_is)
    (case l15 => k_is)
    (case k15 => k_is)
    (case c_15 => k_is)
    (case a16 => k_is)
    (case l16 => k_is)
    (case k16 => k_is)
    (case c_16 => k_is)
    (case a17 => k_is)
    (case l17 => k_is)
    (case k17 => k_is)
    (case c_17 => k_is)
    (case a18 => k_is)
    (case l18 => k_is)
    (case k18 => k_is)
    (case c_18 => k_is)
    (case a19 => k_is)
    (case l19 => k_is)
    (case k19 => k_is)
    (case c_19 => k_is)
    (case a20 => k_is)
    (case l20 => k_is)
    (case k20 => k_is)
    (case c_20 => k_is)
    (case a21 => k_is)
    (case l21 => k_is)
    (case k21 => k_is)
    (case c_21 => k_is)
    (case a22 => k_is)
    (case l22 => k_is)
    (case k22 => k_is)
    (case c_22 => k_is)
    (case a23 => k_is)
    (case l23 => k_is)
    (case k23 => k_is)
    (case c_23 => k_is)
    (case a24 => k_is)
    (case l24 => k_is)
    (case k24 => k_is)
    (case c_24 => k_is)
    (case a25 => k_is)
    (case l25 => k_is)
    (case k25 => k_is)
    (case c_25 => k_is)
    (case a26 => k_is)
    (case l26 => k_is)
    (case k26 => k_is)
    (case c_26 => k_is)
    (case a27 => k_is)
    (case l27 => k_is)
    (case k27 => k_is)
    (case c_27 => k_is)
    (case a28 => k_is)
    (case l28 => k_is)
    (case k28 => k_is)
    (case c_28 => k_is)
    (case a29 => k_is)
    (case l29 => k_is)
    (case k29 => k_is)
    (case c_29 => k_is)
    (case a30 => k_is)
    (case l30 => k_is)
    (case k30 => k_is)
    (case c_30 => k_is)
    (case a31 => k_is)
    (case l31 => k_is)
    (case k31 => k_is)
    (case c_31 => k_is)
    (case a32 => k_is)
    (case l32 => k_is)
    (case k32 => k_is)
    (case c_32 => k_is)
    (case a33 => k_is)
    (case l33 => k_is)
    (case k33 => k_is)
    (case c_33 => k_is)
    (case a34 => k_is)
    (case l34 => k_is)
    (case k34 => k_is)
    (case c_34 => k_is)
    (case a35 => k_is)
    (case l35 => k_is)
    (case k35 => k_is)
    (case c_35 => k_is)
    (case a36 => k_is)
    (case l36 => k_is)
    (case k36 => k_is)
    (case c_36 => k_is)
    (case a37 => k_is)
    (case l37 => k_is)
    (case k37 => k_is)
    (case c_37 => k_is)
    (case a38 => k_is)
    (case l38 => k_is)
    (case k38 => k_is)
    (case c_38 => k_is)
    (case a39 => k_is)
    (case l39 => k_is)
    (case k39 => k_is)
    (case c_39 => k_is)
    (case a40 => k_is)
    (case l40 => k_is)
    (case k40 => k_is)
    (case c_40 => k_is)
    (case a41 => k_is)
    (case l41 => k_is)
    (case k41 => k_is)
    (case c_41 => k_is)
    (case a42 => k_is)
    (case l42 => k_is)
    (case k42 => k_is)
    (case c_42 => k_is)
    (case a43 => k_is)
    (case l43 => k_is)
    (case k43 => k_is)
    (case c_43 => k_is)
    (case a44 => k_is)
    (case l44 => k_is)
    (case k44 => k_is)
    (case c_44 => k_is)
    (case a45 => k_is)
    (case l45 => k_is)
    (case k45 => k_is)
    (case c_45 => k_is)
    (case a46 => k_is)
    (case l46 => k_is)
    (case k46 => k_is)
    (case c_46 => k_is)
    (case a47 => k_is)
    (case l47 => k_is)
    (case k47 => k_is)
    (case c_47 => k_is)
    (case a48 => k_is)
    (case l48 => k_is)
    (case k48 => k_is)
    (case c_48 => k_is)
    (case a49 => k_is)
    (case l49 => k_is)
    (case k49 => k_is)
    (case c_49 => k_is)
    (case a50 => k_is)
    (case l50 => k_is)
    (case k50 => k_is)
    (case c_50 => k_is)
    (case r50 => k_is)
    (case p50 => first | rfl | k_is)
    (case n50 => first | k_is | rfl | decide +kernel)
    (case h50 => kernel_rfl)
    (case y50 => decide +kernel)
    (case a51 => k_is)
    (case l51 => k_is)
    (case k51 => k_is)
    (case c_51 => k_is)
    (case sp1 => k_is)
    (case sp2 => k_is)
    (case ea0 => k_is)
    (case el0 => k_is)
    (case er0 => first | rfl | decide +kernel)
    (case esa0 => k_is)
    (case eex0 => k_is)
    (case ety0 => k_is)
    (case ekp0 => k_is)
    (case ega0 => k_is)
    (case egg0 => k_is)
    (case ehd0 => k_is)
    (case eca0 => k_is)
    (case emr0 => k_is)
    (case ea1 => k_is)
    (case el1 => k_is)
    (case er1 => first | rfl | decide +kernel)
    (case esa1 => k_is)
    (case eex1 => k_is)
    (case ety1 => k_is)
    (case ekp1 => k_is)
    (case ega1 => k_is)
    (case egg1 => k_is)
    (case ehd1 => k_is)
    (case eca1 => k_is)
    (case emr1 => k_is)
    (case iI1 => k_is)
    (case tI1 => k_is)
    (case lI1 => k_is)
    (case cI1 => k_is)
    (case kI1 => k_is)
    (case eno1_value => k_is)
    (case ea2 => k_is)
    (case el2 => k_is)
    (case er2 => first | rfl | decide +kernel)
    (case esa2 => k_is)
    (case eex2 => k_is)
    (case ety2 => k_is)
    (case ekp2 => k_is)
    (case ega2 => k_is)
    (case egg2 => k_is)
    (case ehd2 => k_is)
    (case eca2 => k_is)
    (case emr2 => k_is)
    (case iI2 => k_is)
    (case tI2 => k_is)
    (case lI2 => k_is)
    (case cI2 => k_is)
    (case kI2 => k_is)
    (case eno2_value => k_is)
    (case ea3 => k_is)
    (case el3 => k_is)
    (case er3 => first | rfl | decide +kernel)
    (case esa3 => k_is)
    (case eex3 => k_is)
    (case ety3 => k_is)
    (case ekp3 => k_is)
    (case ega3 => k_is)
    (case egg3 => k_is)
    (case ehd3 => k_is)
    (case eca3 => k_is)
    (case emr3 => k_is)
    (case iI3 => k_is)
    (case tI3 => k_is)
    (case lI3 => k_is)
    (case cI3 => k_is)
    (case kI3 => k_is)
    (case eno3_value => k_is)
    (case ea4 => k_is)
    (case el4 => k_is)
    (case er4 => first | rfl | decide +kernel)
    (case esa4 => k_is)
    (case eex4 => k_is)
    (case ety4 => k_is)
    (case ekp4 => k_is)
    (case ega4 => k_is)
    (case egg4 => k_is)
    (case ehd4 => k_is)
    (case eca4 => k_is)
    (case emr4 => k_is)
    (case iI4 => k_is)
    (case tI4 => k_is)
    (case lI4 => k_is)
    (case cI4 => k_is)
    (case kI4 => k_is)
    (case eno4_place => k_is)
    (case eno4_index => k_is)
    (case ea5 => k_is)
    (case el5 => k_is)
    (case er5 => first | rfl | decide +kernel)
    (case esa5 => k_is)
    (case eex5 => k_is)
    (case ety5 => k_is)
    (case ekp5 => k_is)
    (case ega5 => k_is)
    (case egg5 => k_is)
    (case ehd5 => k_is)
    (case eca5 => k_is)
    (case emr5 => k_is)
    (case ea6 => k_is)
    (case el6 => k_is)
    (case er6 => first | rfl | decide +kernel)
    (case esa6 => k_is)
    (case eex6 => k_is)
    (case ety6 => k_is)
    (case ekp6 => k_is)
    (case ega6 => k_is)
    (case egg6 => k_is)
    (case ehd6 => k_is)
    (case eca6 => k_is)
    (case emr6 => k_is)
    (case iI6 => k_is)
    (case tI6 => k_is)
    (case lI6 => k_is)
    (case cI6 => k_is)
    (case kI6 => k_is)
    (case eno6_what => k_is)
    (case eno6_limit => k_is)
    (case cl_BadEntry => k_is)
    (case ss_BadEntry => k_is)
    (case cl_BadLetters => k_is)
    (case ss_BadLetters => k_is)
    (case cl_BadNumber => k_is)
    (case ss_BadNumber => k_is)
    (case cl_BadWord => k_is)
    (case ss_BadWord => k_is)
    (case cl_Mismatch => k_is)
    (case ss_Mismatch => k_is)
    (case cl_TooLarge => k_is)
    (case ss_TooLarge => k_is)
    (case cl_LagError => k_is)
    (case ss_LagError => k_is)
    (case s_BadNumber_BadEntry => k_is)
    (case s_BadNumber_BadLetters => k_is)
    (case s_BadNumber_BadWord => k_is)
    (case s_BadNumber_Mismatch => k_is)
    (case s_BadNumber_TooLarge => k_is)
    (case s_BadNumber_ValueError => k_is)
    (case s_BadNumber_LagError => k_is)
    (case s_BadLetters_BadEntry => k_is)
    (case s_BadLetters_BadNumber => k_is)
    (case s_BadLetters_BadWord => k_is)
    (case s_BadLetters_Mismatch => k_is)
    (case s_BadLetters_TooLarge => k_is)
    (case s_BadLetters_ValueError => k_is)
    (case s_BadLetters_LagError => k_is)
    (case s_BadEntry_BadLetters => k_is)
    (case s_BadEntry_BadNumber => k_is)
    (case s_BadEntry_BadWord => k_is)
    (case s_BadEntry_Mismatch => k_is)
    (case s_BadEntry_TooLarge => k_is)
    (case s_BadEntry_ValueError => k_is)
    (case s_BadEntry_LagError => k_is)
    (case s_TooLarge_BadEntry => k_is)
    (case s_TooLarge_BadLetters => k_is)
    (case s_TooLarge_BadNumber => k_is)
    (case s_TooLarge_BadWord => k_is)
    (case s_TooLarge_Mismatch => k_is)
    (case s_TooLarge_ValueError => k_is)
    (case s_TooLarge_LagError => k_is)
    (case oa0 => k_is)
    (case opg0 => k_is)
    (case ohd0 => k_is)
    (case opo0 => k_is)
    (case osa0 => k_is)
    (case omk0 => k_is)
    (case okc0 => k_is)
    (case on0__read => k_is)
    (case on0__write => k_is)
    (case on0__size => k_is)
    (case on0__begins => k_is)
    (case on0__arcs => k_is)
    (case on0__ends => k_is)
    (case ma0 => k_is)
    (case mi0 => k_is)
    (case ml0 => k_is)
    (case mc0 => k_is)
    (case mk0 => k_is)
    (case mq0_begins => k_is)
    (case mz0_begins => k_is)
    (case mq0_arcs => k_is)
    (case mz0_arcs => k_is)
    (case mq0_ends => k_is)
    (case mz0_ends => k_is)
    (case ma1 => k_is)
    (case mgt1 => k_is)
    (case mtk1 => k_is)
    (case mrc1 => k_is)
    (case ml1 => k_is)
    (case mc1 => k_is)
    (case mk1 => k_is)
    (case ma2 => k_is)
    (case mgt2 => k_is)
    (case mtk2 => k_is)
    (case mrc2 => k_is)
    (case ml2 => k_is)
    (case mc2 => k_is)
    (case mk2 => k_is)
    (case ma3 => k_is)
    (case mgt3 => k_is)
    (case mtk3 => k_is)
    (case mrc3 => k_is)
    (case ml3 => k_is)
    (case mc3 => k_is)
    (case mk3 => k_is)
    (case ma4 => k_is)
    (case mgt4 => k_is)
    (case mtk4 => k_is)
    (case mrc4 => k_is)
    (case ml4 => k_is)
    (case mc4 => k_is)
    (case mk4 => k_is)
    (case ma5 => k_is)
    (case mgt5 => k_is)
    (case mtk5 => k_is)
    (case mrc5 => k_is)
    (case ml5 => k_is)
    (case mc5 => k_is)
    (case mk5 => k_is)
    (case ma6 => k_is)
    (case mgt6 => k_is)
    (case mtk6 => k_is)
    (case mrc6 => k_is)
    (case ml6 => k_is)
    (case mc6 => k_is)
    (case mk6 => k_is)
    (case ma7 => k_is)
    (case mi7 => k_is)
    (case ml7 => k_is)
    (case mc7 => k_is)
    (case mk7 => k_is)
    (case ma8 => k_is)
    (case mi8 => k_is)
    (case ml8 => k_is)
    (case mc8 => k_is)
    (case mk8 => k_is)
    (case z_ValueError => k_is)
    (case z_all => k_is)
    (case z_bool => k_is)
    (case z_dict => k_is)
    (case z_enumerate => k_is)
    (case z_int => k_is)
    (case z_isinstance => k_is)
    (case z_iter => k_is)
    (case z_len => k_is)
    (case z_list => k_is)
    (case z_max => k_is)
    (case z_min => k_is)
    (case z_range => k_is)
    (case z_set => k_is)
    (case z_sorted => k_is)
    (case z_str => k_is)
    (case z_tuple => k_is)
    (case c_MAX_LETTERS => k_is)
    (case c_MAX_WRITTEN => k_is)
    (case c_MAX_STATES => k_is)
    (case c_MAX_ENTRIES => k_is)
    (case c_SMALL_LETTERS => k_is)
    (case one => decide +kernel)
