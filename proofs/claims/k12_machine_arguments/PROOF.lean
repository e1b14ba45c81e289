import PyProof.Rows.All
import Wide.All
import OpenK.AllK
import Wide.FinOn
import PyProof.EqAt
import PyProof.EqKinds
import PyProof.TupleCall
import HandS.ForMost
import PyProof.Rows.StrMul
import HandS.Lambda
import HandS.AnyAll
import HandS.EndTab
import HandS.IsInst
import KE.GoesZip
import KE.GoesMore
import HandS.Codes
import KE.DatumOrd
import HandS.Walk
import HandS.Words
import HandS.Nested
import HandS.ExcInit
import HandS.ExcField
import HandS.ExcIs
import HandS.WordsExc
import KE.KExcIs
import HandS.ExcOwn
import HandS.Set
import HandS.SetTxt0
import PyProof.ListStr
import HandS.OwnIter
import HandS.IterVal
import HandS.Property
import HandS.MakeKwOnly
import HandS.SortKw
import KE.SortKeyHeap
import HandS.Iter
import HandS.Exc
import HandS.ExcValue
import HandS.DictComp
import HandS.Dict
import KE.GoesEnum
import PyProof.Rows.SetFrom
import PyProof.Rows.StrMeet
import KE.DataMinKey
import HandS.TupLe
import HandS.Style
import PyProof.Rows.StrRev
import HandS.Conv
import KE.SortData
import KE.SortLaws
import HandS.TupLen
import PySem.Challenge.RW_lagbound_k12_machine_arguments
set_option Elab.async false
set_option linter.all false
set_option maxRecDepth 100000
set_option maxHeartbeats 4000000
namespace Lb
open PySem PySem.Spec PyProof.Rows L2
/-! ### texts as lists of their signs -/
def cs (x : Str) : List Nat := x.cps.toList
theorem cs_len (x : Str) : (cs x).length = x.length := by
  show x.cps.toList.length = x.cps.size
  rw [Array.length_toList]
theorem cs_ext {x y : Str} (h : cs x = cs y) : x = y := Str.ext' (Array.toList_inj.mp h)
theorem cs_app (x y : Str) : cs (x ++ y) = cs x ++ cs y := by
  show (x.cps ++ y.cps).toList = x.cps.toList ++ y.cps.toList
  rw [Array.toList_append]
theorem cs_mk (l : List Nat) : cs ⟨l.toArray⟩ = l := by
  show l.toArray.toList = l
  rfl
theorem cs_one (c : Nat) : cs ⟨#[c]⟩ = [c] := rfl
theorem cs_empty : cs (Str.ofString "") = [] := by decide +kernel
theorem foldl_app (ls : List (Array Nat)) : ∀ a : Array Nat, (ls.foldl (· ++ ·) a).toList = a.toList ++ (ls.map Array.toList).flatten := by
  induction ls with
  | nil => intro a; simp
  | cons x r ih => intro a; rw [List.foldl_cons, ih]; simp
theorem cs_mul (x : Str) (n : Int) : cs (Txt.mul x n) = (List.replicate n.toNat (cs x)).flatten := by
  unfold Txt.mul
  by_cases h1 : n < 1
  · rw [if_pos h1]
    have e : n.toNat = 0 := by omega
    rw [e]
    rfl
  · rw [if_neg h1]
    by_cases h2 : (n == 1 || x.length == 0) = true
    · rw [if_pos h2]
      rw [Bool.or_eq_true, beq_iff_eq, beq_iff_eq] at h2
      rcases h2 with rfl | h2
      · show cs x = (List.replicate 1 (cs x)).flatten
        simp
      · have e : cs x = [] := List.length_eq_zero_iff.mp (by rw [cs_len]; exact h2)
        rw [e]
        simp
    · rw [if_neg h2]
      show ((List.replicate n.toNat x.cps).foldl (· ++ ·) #[]).toList = _
      rw [foldl_app]
      simp [cs]
theorem mem_mul {x : Str} {n : Int} {c : Nat} (h : c ∈ cs (Txt.mul x n)) : c ∈ cs x := by
  rw [cs_mul, List.mem_flatten] at h
  obtain ⟨l, hl, hc⟩ := h
  rw [(List.mem_replicate.mp hl).2] at hc
  exact hc
theorem length_mul (x : Str) (n : Int) : (Txt.mul x n).length = x.length * n.toNat := by
  have e : ∀ k : Nat, ((List.replicate k (cs x)).flatten).length = x.length * k := by
    intro k
    induction k with
    | zero => rfl
    | succ k ih => rw [List.replicate_succ, List.flatten_cons, List.length_append, ih, cs_len, Nat.mul_succ, Nat.add_comm]
  rw [← cs_len, cs_mul]
  exact e _
theorem op_rep_str {X : Cx} : OpR X (binaryOp .Mult) (fun x y H Q => ∃ (i : Str) (n : Int), x = .str i ∧ y = .int n ∧ i.length ≤ 16 ∧ -(2 ^ 62) ≤ n ∧ n ≤ 1048576 ∧ Q (.str (Txt.mul i n)) H) := by
  intro pins s σ H x y v u Q I rx ry h
  obtain ⟨i, n, rfl, rfl, hi, h0, h1, q⟩ := h
  obtain ⟨t, rfl⟩ := rx
  obtain ⟨t', rfl⟩ := ry
  exact SB.mul (mulOk_of 16 1048576 hi h1 (by omega) (by decide) (by decide)) fun t' tk => ⟨.str (Txt.mul i n), H, I.tok _, ⟨_, rfl⟩, q⟩
theorem cs_cut (z : Str) (lo hi : Option Int) : cs (cutS z lo hi) = ((cs z).drop (HT.sIx z.length 0 lo)).take (HT.sIx z.length z.length hi - HT.sIx z.length 0 lo) := rfl
theorem cs_upto (z : Str) (k : Nat) : cs (cutS z none (some (k : Int))) = (cs z).take k := by
  rw [cs_cut, HT.sIx_none, HT.sIx_nat, List.drop_zero, Nat.sub_zero, ← cs_len]
  by_cases h : k ≤ (cs z).length
  · rw [Nat.min_eq_left h]
  · rw [Nat.min_eq_right (by omega), List.take_of_length_le (Nat.le_refl _), List.take_of_length_le (by omega)]
theorem cs_from (z : Str) (k : Nat) : cs (cutS z (some (k : Int)) none) = (cs z).drop k := by
  rw [cs_cut, HT.sIx_none, HT.sIx_nat, ← cs_len]
  by_cases h : k ≤ (cs z).length
  · rw [Nat.min_eq_left h, List.take_of_length_le (by rw [List.length_drop]; omega)]
  · rw [Nat.min_eq_right (by omega), Nat.sub_self, List.take_zero, List.drop_eq_nil_of_le (by omega)]
theorem mem_cut {z : Str} {lo hi : Option Int} {c : Nat} (h : c ∈ cs (cutS z lo hi)) : c ∈ cs z := by
  rw [cs_cut] at h
  exact List.mem_of_mem_drop (List.mem_of_mem_take h)
theorem cut_len (z : Str) (lo hi : Option Int) : (cutS z lo hi).length ≤ z.length := cutS_length z lo hi
theorem join_nil : Txt.join (Str.ofString "") [] = Str.ofString "" := rfl
theorem cs_join0 : ∀ ys : List Str, cs (Txt.join (Str.ofString "") ys) = (ys.map cs).flatten
  | [] => cs_empty
  | [x] => by
    show cs x = ([x].map cs).flatten
    simp
  | x :: y :: r => by
    have e : Txt.join (Str.ofString "") (x :: y :: r) = x ++ Str.ofString "" ++ Txt.join (Str.ofString "") (y :: r) := by
      unfold Txt.join
      first
        | rfl
        | (rw [StrLaws.glued_eq_join, StrLaws.glued_eq_join]; rfl)
    rw [e, cs_app, cs_app, cs_empty, cs_join0 (y :: r)]
    simp
/-- the word's letters are letters of z -/
def Over (z w : Str) : Prop := ∀ c ∈ cs w, c ∈ cs z
theorem Over.app {z x y : Str} (h : Over z x) (k : Over z y) : Over z (x ++ y) := fun c m => by
  rw [cs_app] at m
  rcases List.mem_append.mp m with m | m
  · exact h c m
  · exact k c m
theorem Over.mul {z x : Str} {n : Int} (h : Over z x) : Over z (Txt.mul x n) := fun c m => h c (mem_mul m)
theorem Over.cut {z x : Str} {lo hi : Option Int} (h : Over z x) : Over z (cutS x lo hi) := fun c m => h c (mem_cut m)
theorem Over.one {z : Str} {c : Nat} (h : c ∈ cs z) : Over z ⟨#[c]⟩ := fun d m => by
  rw [cs_one] at m
  rw [List.mem_singleton.mp m]
  exact h
theorem Over.empty {z : Str} : Over z (Str.ofString "") := fun c m => by
  rw [cs_empty] at m
  exact absurd m List.not_mem_nil
theorem length_app (x y : Str) : (x ++ y).length = x.length + y.length := Str.length_append x y
theorem small_text {n : Nat} (h : n ≤ 1000000) : n ≤ sizeLine := Nat.le_trans h (by decide)
end Lb
namespace Lb
open PySem PySem.Spec PyProof.Rows L2
def abc : Str := Str.ofString "abcdefghijklmnopqrstuvwxyz"
theorem cs_abc : cs abc = List.range' 97 26 := by decide +kernel
theorem len_abc : abc.length = 26 := by decide +kernel
/-- one to four letters from a to z, ascending -/
structure IsAlpha (z : Str) : Prop where
  asc : (cs z).Pairwise (· < ·)
  low : ∀ c ∈ cs z, 97 ≤ c ∧ c ≤ 122
  len1 : 1 ≤ z.length
  len4 : z.length ≤ 4
theorem IsAlpha.small {z : Str} (h : IsAlpha z) : z.length ≤ 1000000 := Nat.le_trans h.len4 (by decide)
theorem IsAlpha.nodup {z : Str} (h : IsAlpha z) : (cs z).Nodup := h.asc.imp fun e => Nat.ne_of_lt e
theorem abc_asc : (cs abc).Pairwise (· < ·) := by
  rw [cs_abc]
  exact List.pairwise_lt_range'
theorem abc_low : ∀ c ∈ cs abc, 97 ≤ c ∧ c ≤ 122 := fun c h => by
  rw [cs_abc, List.mem_range'_1] at h
  omega
theorem abc_upto {k : Nat} (h1 : 1 ≤ k) (h4 : k ≤ 4) : IsAlpha (cutS abc none (some (k : Int))) where
  asc := by
    rw [cs_upto]
    exact abc_asc.sublist (List.take_sublist _ _)
  low := fun c h => abc_low c (mem_cut h)
  len1 := by
    rw [← cs_len, cs_upto, List.length_take, cs_len, len_abc]
    omega
  len4 := by
    rw [← cs_len, cs_upto, List.length_take, cs_len, len_abc]
    omega
theorem abc_from {k : Nat} (h1 : 22 ≤ k) (h4 : k ≤ 25) : IsAlpha (cutS abc (some (k : Int)) none) where
  asc := by
    rw [cs_from]
    exact abc_asc.sublist (List.drop_sublist _ _)
  low := fun c h => abc_low c (mem_cut h)
  len1 := by
    rw [← cs_len, cs_from, List.length_drop, cs_len, len_abc]
    omega
  len4 := by
    rw [← cs_len, cs_from, List.length_drop, cs_len, len_abc]
    omega
theorem starts_iff (x p : Str) : Txt.startswith x p = decide ((cs x).take p.length = cs p) := by
  unfold Txt.startswith
  rw [StrLaws.subAt_eq, List.drop_zero, Nat.zero_add]
  show (decide (p.length ≤ x.length) && ((cs x).take p.length == cs p)) = _
  by_cases h : (cs x).take p.length = cs p
  · have hl : p.length ≤ x.length := by
      rw [← cs_len, ← h, List.length_take, cs_len]
      omega
    rw [decide_eq_true hl, decide_eq_true h, beq_iff_eq.mpr h]
    rfl
  · rw [decide_eq_false h, beq_eq_false_iff_ne.mpr h, Bool.and_false]
end Lb

namespace Lb
open PySem PySem.Spec PyProof.Rows L2
/-! ### the text's tables of code objects; what stands while a def runs -/
/-- the tables of the text's defs that make generators or lambdas: where they are, and the name their code objects bear -/
class Tabl where
  T : List (Addr × Str)
  one : ∀ p ∈ T, ∀ q ∈ T, p.1 = q.1 → p.2 = q.2
abbrev Good [Tabl] (H : Hp) : Prop := LamX.Tabs Tabl.T H
/-- no table -/
abbrev NoT (o : HO) : Prop := ∀ ps, o ≠ .tbl ps
/-- a list, a dict, a set or an instance: what a def may change -/
def Mut : HO → Prop
  | .lst _ | .dK _ | .dT _ | .set _ _ | .ins _ _ _ => True
  | _ => False
theorem Mut.noT {o : HO} (h : Mut o) : NoT o := fun ps e => by
  rw [e] at h
  exact h
theorem tabS_upd {H : Hp} {P p : Addr} {q : Str} {o : HO} (t : LamX.TabS H P q) (h : H p = none ∨ ∃ u, H p = some u ∧ Mut u) : LamX.TabS (upd H p o) P q := by
  obtain ⟨ps, h1, h2, h3⟩ := t
  have ne : ∀ b u, H b = some u → ¬ Mut u → b ≠ p := fun b u e m z => by
    rw [z] at e
    rcases h with h | ⟨v, h, k⟩
    · rw [h] at e
      cases e
    · rw [h] at e
      rw [Option.some.inj e] at k
      exact m k
  refine ⟨ps, by rw [upd_ne (ne P _ h1 id)]; exact h1, h2, fun pos cv hc => ?_⟩
  obtain ⟨c, e1, e2⟩ := h3 pos cv hc
  exact ⟨c, e1, by rw [upd_ne (ne c _ e2 id)]; exact e2⟩
section
variable [Tabl]
/-- what stood stands; the tables may have grown -/
structure Same (H H' : Hp) : Prop where
  old : ∀ b o, H b = some o → (_ : NoT o := by intro _ z; cases z) → H' b = some o
  tab : ∀ b ps, H b = some (.tbl ps) → ∃ qs, H' b = some (.tbl qs)
  good : Good H → Good H'
instance {H H' : Hp} : CoeFun (Same H H') fun _ => ∀ b o, H b = some o → (_ : NoT o := by intro _ z; cases z) → H' b = some o := ⟨@Same.old _ H H'⟩
theorem Same.refl (H : Hp) : Same H H := ⟨fun _ _ h _ => h, fun _ ps h => ⟨ps, h⟩, id⟩
theorem Same.trans {H H1 H2 : Hp} (p : Same H H1) (q : Same H1 H2) : Same H H2 :=
  ⟨fun b o h n => q.old b o (p.old b o h n) n, fun b ps h => let ⟨qs, e⟩ := p.tab b ps h; q.tab b qs e, fun g => q.good (p.good g)⟩
theorem Same.free {H H' : Hp} {p : Addr} (s : Same H H') (n : H' p = none) : H p = none := by
  cases e : H p with
  | none => rfl
  | some o =>
    by_cases k : NoT o
    · rw [s.old _ _ e k] at n
      cases n
    · have ⟨ps, z⟩ : ∃ ps, o = .tbl ps := Classical.byContradiction fun c => k fun ps z => c ⟨ps, z⟩
      rw [z] at e
      obtain ⟨qs, e'⟩ := s.tab _ _ e
      rw [e'] at n
      cases n
theorem same_new {H : Hp} {p : Addr} {o : HO} (h : H p = none) : Same H (upd H p o) where
  old b x e _ := by
    rw [upd_ne (ne_of_none e h)]
    exact e
  tab b ps e := ⟨ps, by rw [upd_ne (ne_of_none e h)]; exact e⟩
  good g := fun t ht => tabS_upd (g t ht) (.inl h)
/-- all but the object at a stands -/
structure But (a : Addr) (H H' : Hp) : Prop where
  old : ∀ b o, b ≠ a → H b = some o → (_ : NoT o := by intro _ z; cases z) → H' b = some o
  tab : ∀ b ps, H b = some (.tbl ps) → ∃ qs, H' b = some (.tbl qs)
  good : Good H → Good H'
instance {a : Addr} {H H' : Hp} : CoeFun (But a H H') fun _ => ∀ b o, b ≠ a → H b = some o → (_ : NoT o := by intro _ z; cases z) → H' b = some o := ⟨@But.old _ a H H'⟩
theorem But.refl {a : Addr} (H : Hp) : But a H H := ⟨fun _ _ _ h _ => h, fun _ ps h => ⟨ps, h⟩, id⟩
theorem But.trans {a : Addr} {H H1 H2 : Hp} (p : But a H H1) (q : But a H1 H2) : But a H H2 :=
  ⟨fun b o n h k => q.old b o n (p.old b o n h k) k, fun b ps h => let ⟨qs, e⟩ := p.tab b ps h; q.tab b qs e, fun g => q.good (p.good g)⟩
theorem But.same {a : Addr} {H H' : Hp} (p : Same H H') : But a H H' := ⟨fun b o _ h k => p.old b o h k, p.tab, p.good⟩
theorem But.put {a : Addr} {H : Hp} {o u : HO} (h : H a = some u) (m : Mut u := by trivial) : But a H (upd H a o) where
  old b x n e _ := by
    rw [upd_ne n]
    exact e
  tab b ps e := ⟨ps, by
    rw [upd_ne (fun z => by rw [z, h] at e; rw [Option.some.inj e] at m; exact m)]
    exact e⟩
  good g := fun t ht => tabS_upd (g t ht) (.inr ⟨u, h, m⟩)
theorem But.new {a : Addr} {H : Hp} {p : Addr} {o : HO} (h : H p = none) : But a H (upd H p o) := But.same (same_new h)
theorem But.free {a p : Addr} {H H' : Hp} (s : But a H H') (n : H' p = none) (na : p ≠ a) : H p = none := by
  cases e : H p with
  | none => rfl
  | some o =>
    by_cases k : NoT o
    · rw [s.old _ _ na e k] at n
      cases n
    · have ⟨ps, z⟩ : ∃ ps, o = .tbl ps := Classical.byContradiction fun c => k fun ps z => c ⟨ps, z⟩
      rw [z] at e
      obtain ⟨qs, e'⟩ := s.tab _ _ e
      rw [e'] at n
      cases n
/-- a new object, changed since: what stood stands -/
theorem But.grown {a p : Addr} {H H1 H2 : Hp} {o u : HO} (b1 : But a H H1) (n : H1 p = none) (b2 : But a H H2) (h : H2 p = some u) (m : Mut u := by trivial) : But a H (upd H2 p o) where
  old b x hb e k := by
    rw [upd_ne (fun z => by rw [z] at e hb; rw [b1.old _ _ hb e k] at n; cases n)]
    exact b2.old b x hb e k
  tab b ps e := by
    obtain ⟨qs, e'⟩ := b2.tab b ps e
    exact ⟨qs, by rw [upd_ne (fun z => by rw [z, h] at e'; rw [Option.some.inj e'] at m; exact m)]; exact e'⟩
  good g := fun t ht => tabS_upd (b2.good g t ht) (.inr ⟨u, h, m⟩)
/-- a new object, made since and changed: what stood stands -/
theorem Same.grown {p : Addr} {H H1 H2 : Hp} {o u : HO} (b1 : Same H H1) (n : H1 p = none) (b2 : Same H H2) (h : H2 p = some u) (m : Mut u := by trivial) : Same H (upd H2 p o) where
  old b x e k := by
    rw [upd_ne (fun z => by rw [z] at e; rw [b1.old _ _ e k] at n; cases n)]
    exact b2.old b x e k
  tab b ps e := by
    obtain ⟨qs, e'⟩ := b2.tab b ps e
    exact ⟨qs, by rw [upd_ne (fun z => by rw [z, h] at e'; rw [Option.some.inj e'] at m; exact m)]; exact e'⟩
  good g := fun t ht => tabS_upd (b2.good g t ht) (.inr ⟨u, h, m⟩)
/-- a table has grown by a new code object of the name that it bears -/
theorem same_code {H : Hp} {P c : Addr} {q : Str} {ps : Array Value} {pos : Pos} (tab : H P = some (.tbl ps)) (tri : TriplesOk ps.toList) (bears : ∀ (pos : Pos) (cv : Value), codeAmong pos ps.toList = some cv → ∃ c, cv = .ref c ∧ H c = some (LamX.CodeO c q)) (nC : H c = none) (hm : (P, q) ∈ Tabl.T) :
    Same H (upd (upd H P (.tbl (ps ++ #[rawInt pos.line, rawInt pos.col, .ref c]))) c (LamX.CodeO c q)) := by
  have keep : ∀ b o, H b = some o → NoT o → upd (upd H P (.tbl (ps ++ #[rawInt pos.line, rawInt pos.col, .ref c]))) c (LamX.CodeO c q) b = some o := fun b o e n => by
    rw [upd_ne (ne_of_none e nC), upd_ne (fun z => n ps (Option.some.inj (e.symm.trans (by rw [z]; exact tab))))]
    exact e
  have list : (ps ++ #[rawInt pos.line, rawInt pos.col, Value.ref c]).toList = ps.toList ++ [rawInt pos.line, rawInt pos.col, .ref c] := by simp
  refine ⟨keep, fun b qs e => ?_, fun g p hp => ?_⟩
  · by_cases z : b = P
    · exact ⟨_, by rw [z, upd_ne (ne_of_none tab nC), upd_same]⟩
    · exact ⟨qs, by rw [upd_ne (ne_of_none e nC), upd_ne z]; exact e⟩
  · by_cases z : p.1 = P
    · have e2 : p.2 = q := Tabl.one _ hp _ hm z
      rw [z, e2]
      refine ⟨_, by rw [upd_ne (ne_of_none tab nC), upd_same], by rw [list]; exact PySem.TriplesOk_snoc _ _ _ _ tri, fun p' cv h => ?_⟩
      rw [list] at h
      rcases LamX.among_app _ tri h with k | k
      · obtain ⟨c0, e1, e2⟩ := bears p' cv k
        exact ⟨c0, e1, keep _ _ e2 LamX.codeO_ne⟩
      · exact ⟨c, k, upd_same⟩
    · obtain ⟨qs, a1, a2, a3⟩ := g p hp
      refine ⟨qs, by rw [upd_ne (ne_of_none a1 nC), upd_ne z]; exact a1, a2, fun p' cv h => ?_⟩
      obtain ⟨c0, e1, e2⟩ := a3 p' cv h
      exact ⟨c0, e1, keep _ _ e2 LamX.codeO_ne⟩
end
end Lb

namespace Lb
open PySem PySem.Spec PyProof.Rows L2
/-- the tables of the text's defs are empty when the law is called -/
def Empty (names : List Str) (K : PySem.W.Frag) (mg : Str → Option Value) (h : Heap) : Prop :=
  ∀ (x : Str) (f c P : Addr) (o : Obj) (fd : FuncData) (e : Value) (dd : Option Addr) (vs : Array Value) (sl : Array (Option Value)), x ∈ names → mg x = some (.ref f) → K.lookup f = some o → o.data = .func fd → fd.code = .ref c →
    K.lookup c = some ⟨e, dd, .fields vs, sl⟩ → vs[11]? = some (.ref P) → h.get? P = some { cls := .none, data := .fields #[] }
/-- the law: called with at most 63 ints it answers True -/
def sp_law [Tabl] (K : PySem.W.Frag) : Sp := fun vs H Q _ => ∃ (a : Addr) (ns : List Int), vs = [.ref a] ∧ SqL K H a (ns.map V.int) ∧ ns.length ≤ 63 ∧ Good H ∧ ∀ H', Q (.bl true) H'
theorem walk_tabs {l : PySem.W.OpenLaw} {n k : Nat} {q : Program} {loose : List Str} {XP : (Str → Option Value) → Heap → Prop} {YP : World → Heap → Prop} {d : DefRec} {K : Params → PySem.W.Frag} {CX : World → CXT} {x : Str} (most : l.most = some n) (small : n ≤ sizeLine) (plain : d.params.defaults = []) (room : Room k callerA)
    (inK : ∀ (w : World) (h : Heap), YP w h → (K w.params).In h) (F : ∀ (w : World) (mg : Str → Option Value) (fa : Addr) (h : Heap), (K w.params).In h → h.Ns mainGlobals mg → mg d.name = some (.ref fa) → Empty ((recsOf q).map (·.name)) (K w.params) mg h → LamX.LawAtS l w (K w.params) (CX w) k n x mg fa h)
    (none_out : ∀ (w : World) (H : Hp) (s : Shared) (e : Value) (s' : Shared), ¬ CX w [] H s (fun _ _ _ => False) e s') : PySem.W.WalkO q loose XP YP l.row.toRowW d [] (fun f vs => PySem.call f vs) := by
  refine Att.attach_callB most plain fun w s0 s mg mb fa o pm cd doc a vs ns G Y ho hd hcd global obj its len bits gens => ?_
  have KX := inK w _ Y
  have E : Empty ((recsOf q).map (·.name)) (K w.params) mg s.heap := fun y f c P o1 fd1 e dd vs1 sl hy k1 k2 k3 k4 k5 k6 => by
    obtain ⟨r, hr, er⟩ := List.mem_map.mp hy
    obtain ⟨_, _, _, _, _, t1, t2, t3, t4, t5, ⟨oc, vc, u1, _, u3, u4⟩, t6⟩ := G.T.tab r hr
    rw [show r.name = y from er, k1] at t1
    cases t1
    cases (KX _ _ k2).symm.trans t2
    cases k3.symm.trans t3
    cases k4.symm.trans t4
    cases (KX _ _ k5).symm.trans u1
    cases u3
    cases k6.symm.trans u4
    exact t6
  obtain ⟨fd, cs, sp, c1, c2, c3, c4, c5, c6⟩ := F w mg fa _ KX G.T.g global E
  exact LamX.law_callTs KX G.T.g G.T.b G.T.builtins G.T.nolimit gens c1 c2 c3 G.T.bmain obj its (Nat.le_trans len small) room c6 c4 (fun H e hS => c5 H a ns len bits e hS) fun H e s' z => none_out w H s e s' z
end Lb

namespace Lb
open PySem PySem.Spec PyProof.Rows L2
/-! ### plain values by their outermost kind -/
def NoTxt (H : Hp) (v : V) : Prop := v = .non ∨ (∃ b, v = .bl b) ∨ (∃ i, v = .int i) ∨ ∃ p xs, v = .ref p ∧ (H p = some (.lst xs) ∨ H p = some (.tup xs))
def Shal (H : Hp) (v : V) : Prop := (∃ x : Str, v = .str x ∧ x.length ≤ 1000000) ∨ NoTxt H v
theorem NoTxt.same [Tabl] {H H' : Hp} {v : V} (h : NoTxt H v) (s : Same H H') : NoTxt H' v := by
  rcases h with h | h | h | ⟨p, xs, e, h⟩
  · exact .inl h
  · exact .inr (.inl h)
  · exact .inr (.inr (.inl h))
  · exact .inr (.inr (.inr ⟨p, xs, e, h.elim (fun q => .inl (s _ _ q)) fun q => .inr (s _ _ q)⟩))
theorem Shal.same [Tabl] {H H' : Hp} {v : V} (h : Shal H v) (s : Same H H') : Shal H' v := h.elim .inl fun q => .inr (q.same s)
theorem shal_str {H : Hp} {x : Str} (h : x.length ≤ 1000000) : Shal H (.str x) := .inl ⟨x, rfl, h⟩
theorem shal_int {H : Hp} {i : Int} : Shal H (.int i) := .inr (.inr (.inr (.inl ⟨i, rfl⟩)))
theorem noTxt_str {H : Hp} {x : Str} (h : NoTxt H (.str x)) : False := by
  rcases h with h | ⟨b, h⟩ | ⟨i, h⟩ | ⟨p, xs, h, _⟩ <;> cases h
def isStr : V → Bool
  | .str _ => true
  | _ => false
def isInt : V → Bool
  | .int _ => true
  | _ => false
def isBl : V → Bool
  | .bl _ => true
  | _ => false
/-- isinstance(v, str) -/
theorem isi_str {K : PySem.W.Frag} {H : Hp} {v : V} (h : Shal H v) : ∃ t : Value, TyX K H v t ∧ PySem.W.kitOne K t (.type "str") = some (isStr v) := by
  rcases h with ⟨x, rfl, _⟩ | rfl | ⟨b, rfl⟩ | ⟨i, rfl⟩ | ⟨p, xs, rfl, h | h⟩
  · exact ⟨_, .base (.str x), kit_ty (show kitB "str" "str" = some true by decide +kernel)⟩
  · exact ⟨_, .base .non, kit_ty (show kitB "NoneType" "str" = some false by decide +kernel)⟩
  · exact ⟨_, .base (.bl b), kit_ty (show kitB "bool" "str" = some false by decide +kernel)⟩
  · exact ⟨_, .base (.int i), kit_ty (show kitB "int" "str" = some false by decide +kernel)⟩
  · exact ⟨_, .base (.lst h), kit_ty (show kitB "list" "str" = some false by decide +kernel)⟩
  · exact ⟨_, .base (.tup h), kit_ty (show kitB "tuple" "str" = some false by decide +kernel)⟩
/-- isinstance(v, int) -/
theorem isi_int {K : PySem.W.Frag} {H : Hp} {v : V} (h : Shal H v) : ∃ t : Value, TyX K H v t ∧ PySem.W.kitOne K t (.type "int") = some (isInt v || isBl v) := by
  rcases h with ⟨x, rfl, _⟩ | rfl | ⟨b, rfl⟩ | ⟨i, rfl⟩ | ⟨p, xs, rfl, h | h⟩
  · exact ⟨_, .base (.str x), kit_ty (show kitB "str" "int" = some false by decide +kernel)⟩
  · exact ⟨_, .base .non, kit_ty (show kitB "NoneType" "int" = some false by decide +kernel)⟩
  · exact ⟨_, .base (.bl b), kit_ty (show kitB "bool" "int" = some true by decide +kernel)⟩
  · exact ⟨_, .base (.int i), kit_ty (show kitB "int" "int" = some true by decide +kernel)⟩
  · exact ⟨_, .base (.lst h), kit_ty (show kitB "list" "int" = some false by decide +kernel)⟩
  · exact ⟨_, .base (.tup h), kit_ty (show kitB "tuple" "int" = some false by decide +kernel)⟩
/-- isinstance(v, bool) -/
theorem isi_bool {K : PySem.W.Frag} {H : Hp} {v : V} (h : Shal H v) : ∃ t : Value, TyX K H v t ∧ PySem.W.kitOne K t (.type "bool") = some (isBl v) := by
  rcases h with ⟨x, rfl, _⟩ | rfl | ⟨b, rfl⟩ | ⟨i, rfl⟩ | ⟨p, xs, rfl, h | h⟩
  · exact ⟨_, .base (.str x), kit_ty (show kitB "str" "bool" = some false by decide +kernel)⟩
  · exact ⟨_, .base .non, kit_ty (show kitB "NoneType" "bool" = some false by decide +kernel)⟩
  · exact ⟨_, .base (.bl b), kit_ty (show kitB "bool" "bool" = some true by decide +kernel)⟩
  · exact ⟨_, .base (.int i), kit_ty (show kitB "int" "bool" = some false by decide +kernel)⟩
  · exact ⟨_, .base (.lst h), kit_ty (show kitB "list" "bool" = some false by decide +kernel)⟩
  · exact ⟨_, .base (.tup h), kit_ty (show kitB "tuple" "bool" = some false by decide +kernel)⟩
theorem isStr_of {v : V} (h : isStr v = true) : ∃ x, v = .str x := by
  cases v <;> first | exact ⟨_, rfl⟩ | cases h
theorem isInt_of {v : V} (h : isInt v = true) : ∃ x, v = .int x := by
  cases v <;> first | exact ⟨_, rfl⟩ | cases h
theorem Shal.text {H : Hp} {x : Str} (h : Shal H (.str x)) : x.length ≤ 1000000 := by
  rcases h with ⟨y, e, l⟩ | h
  · cases e
    exact l
  · exact (noTxt_str h).elim
end Lb

namespace L2
open PySem PySem.Spec PyProof.Rows
/-! zip of two texts, walked by a for: the pairs of their signs, as many as the shorter one has -/
def Itzs (x y : Str) : It :=
  ⟨fun i _ => i < x.cps.size ∧ i < y.cps.size,
    fun i H v H' => ∃ T c d, v = .ref T ∧ H T = none ∧ x.cps[i]? = some c ∧ y.cps[i]? = some d ∧ H' = upd H T (.tup [.str ⟨#[c]⟩, .str ⟨#[d]⟩]),
    fun i _ => i ≤ x.cps.size ∧ i ≤ y.cps.size ∧ (i = x.cps.size ∨ i = y.cps.size)⟩
theorem turn_zipS {P : Program} {w : World} {K : PySem.W.Frag} {elts : List Expr} {kk : Nat} {tpos : Pos} {x y : Str} {t1 t2 : Tok} {z TI TO i1 i2 : Addr} (D : ZipSep2 z TI TO i1 i2 [i1] [i2]) :
    Turn P w K (.Tuple elts kk tpos) (Itzs x y) [z, TI, TO, i1, i2] z (fun i h => IsZip h z TI TO .none ∧ IsPair h TI (.ref i1) (.ref i2) ∧ (∃ a b, IsPair h TO a b) ∧ h.IsStrIter i1 (strIterType x) x t1 i ∧ h.IsStrIter i2 (strIterType y) y t2 i) where
  mem := by simp
  obj := fun i h st c hc => by
    obtain ⟨hz, hTI, ⟨a, b, hTO⟩, ⟨o1, e1, _, d1⟩, ⟨o2, e2, _, d2⟩⟩ := st
    have e' : c = z ∨ c = TI ∨ c = TO ∨ c = i1 ∨ c = i2 := by simpa using hc
    rcases e' with q | q | q | q | q
    · rw [q]; exact ⟨_, hz, fun v q => nomatch q⟩
    · rw [q]; exact ⟨_, hTI, fun v q => nomatch q⟩
    · rw [q]; exact ⟨_, hTO, fun v q => nomatch q⟩
    · rw [q]; exact ⟨o1, e1, fun v q => by rw [d1] at q; cases q⟩
    · rw [q]; exact ⟨o2, e2, fun v q => by rw [d2] at q; cases q⟩
  keep := fun i h h' st k => by
    obtain ⟨hz, hTI, ⟨a, b, hTO⟩, ⟨o1, e1, r1⟩, ⟨o2, e2, r2⟩⟩ := st
    exact ⟨k z (by simp) _ hz, k TI (by simp) _ hTI, ⟨a, b, k TO (by simp) _ hTO⟩, ⟨o1, k i1 (by simp) _ e1, r1⟩, ⟨o2, k i2 (by simp) _ e2, r2⟩⟩
  item := by
    intro X hP hw hK hc i pins s σ H E I hf st hg
    subst hP hw hK
    obtain ⟨hz, hTI, ⟨x0, y0, hTO⟩, h1, h2⟩ := st
    have hzl : z < s.heap.objs.size := Heap.lt_size hz
    have hh : X.A.in1.handled = none := I.ok.hd hc
    refine wpAny_pyNext_zipD2_item D (Draws.text hh i1 x t1) (Draws.text hh i2 y t2) hz hTI hTO h1 h2 hg.1 hg.2 fun v1 v2 h' tk hv1 hv2 z' TO' h1' h2' hT hsz hk => ?_
    obtain ⟨c, u, hc1, rfl⟩ := hv1
    obtain ⟨d, u', hd1, rfl⟩ := hv2
    refine ⟨_, rfl, wpAny_letOwnedTupleGo_zip (s := { s with heap := h', toks := tk }) z' fun h'' z'' sb => ?_⟩
    have hT2 : h''.get? s.heap.objs.size = some { cls := .type "tuple", data := .seq #[.str ⟨#[c]⟩ u, .str ⟨#[d]⟩ u'] } := (sb.2 _ (Nat.ne_of_gt hzl)).trans hT
    have new : ObjOk X.prog X.w (upd H s.heap.objs.size (.tup [.str ⟨#[c]⟩, .str ⟨#[d]⟩])) h'' s.heap.objs.size (.tup [.str ⟨#[c]⟩, .str ⟨#[d]⟩]) :=
      ⟨by show 2 ≤ sizeLine; decide, [.str ⟨#[c]⟩ u, .str ⟨#[d]⟩ u'], .cons ⟨_, rfl⟩ (.cons ⟨_, rfl⟩ .nil), ⟨_, hT2, rfl, _, rfl⟩⟩
    have I1 : Inv X pins σ (upd H s.heap.objs.size (.tup [.str ⟨#[c]⟩, .str ⟨#[d]⟩])) { s with heap := h'', toks := tk } :=
      I.turnedNew (t' := tk) (ch := [z, TI, TO, i1, i2]) (fun c o hb q => (sb.2 c (fun q' => hb (by simp [q']))).trans (hk c o (fun q' => hb (by simp [q'])) (fun q' => hb (by simp [q'])) (fun q' => hb (by simp [q'])) (fun q' => hb (by simp [q'])) q)) hf (Nat.le_refl _) new
    have g1 : i1 ≠ z := fun e => D.zi1 e.symm
    have g2 : i2 ≠ z := fun e => D.zi2 e.symm
    obtain ⟨o1, e1, r1⟩ := h1'
    obtain ⟨o2, e2, r2⟩ := h2'
    obtain ⟨p1, f1, _⟩ := h1
    obtain ⟨p2, f2, _⟩ := h2
    refine ⟨.ref s.heap.objs.size, _, I1, rfl, ⟨_, c, d, rfl, I.hok.fresh (Nat.le_refl _), hc1, hd1, rfl⟩, ⟨z'', ?_, ⟨_, _, (sb.2 _ D.TOz).trans TO'⟩, ⟨o1, (sb.2 _ g1).trans e1, r1⟩, ⟨o2, (sb.2 _ g2).trans e2, r2⟩⟩, fun c hcm => ?_⟩
    · exact (sb.2 _ D.TIz).trans (hk _ _ D.TIz D.TITO D.TIi1 D.TIi2 hTI)
    · have hlt : c < s.heap.objs.size := by
        have e' : c = z ∨ c = TI ∨ c = TO ∨ c = i1 ∨ c = i2 := by simpa using hcm
        rcases e' with q | q | q | q | q
        · rw [q]; exact hzl
        · rw [q]; exact Heap.lt_size hTI
        · rw [q]; exact Heap.lt_size hTO
        · rw [q]; exact Heap.lt_size f1
        · rw [q]; exact Heap.lt_size f2
      rw [upd_ne (Nat.ne_of_lt hlt)]
      exact (hf c hcm).1
  done := by
    intro X hP hw hK hc i pins s σ H E I hf st hg
    subst hP hw hK
    obtain ⟨hz, hTI, ⟨x0, y0, hTO⟩, h1, h2⟩ := st
    have hh : X.A.in1.handled = none := I.ok.hd hc
    exact wpAny_pyNext_zipD2_end D (Draws.text hh i1 x t1) (Draws.text hh i2 y t2) hz hTI hTO h1 h2 hg.1 hg.2.1 hg.2.2 fun h' tk hk => ⟨rfl, I.turnedL (t' := tk) (ch := [z, TI, TO, i1, i2]) (fun c o hb q =>
      hk c o (fun q' => hb (by simp [q'])) (fun q' => hb (by simp [q'])) (fun q' => hb (by simp [q'])) (fun q' => hb (by simp [q'])) q) hf⟩
  self := fun A i s Q E st h => wpAny_pyIter_zip st.1 h
def iZipS (ta : TA) : TI := fun σ H R => ta σ H fun vs H1 => ∃ x y, vs = [.str x, .str y] ∧ R (Itzs x y) H1
theorem pi_zipS {X : Cx} {e e2 : Expr} {ta : TA} {p pos tpos : Pos} {elts : List Expr} {kk : Nat} (hg : Gl X "zip") (hm : X.mg "zip" = none) (ha : PA X [e, e2] ta)
    (hs : starEach [e, e2] X.env = (false, eval e X.env) :: starEach [e2] X.env := by rfl) (hpl : (backTo pos (starEach [e2] X.env)).any (·.1) = false := by rfl) :
    PI X (.Tuple elts kk tpos) (.Call (.Name "zip" p) [e, e2] [] pos) (iZipS ta) := by
  refine ⟨fun pins s σ H R I h => ?_⟩
  refine Call_ (ld_blt I hg hm PyProof.Rows.boot_zip (PyProof.Rows.callWith_type1 (thn (ha.run pos pins s σ H _ I h) fun us s1 ⟨vs, H1, I1, r1, q1⟩ => ?_) hs hpl))
  obtain ⟨x, y, ex, q⟩ := q1
  subst ex
  cases r1 with
  | cons r rr =>
    cases rr with
    | cons r' rr =>
      cases rr
      obtain ⟨t1, rfl⟩ := r
      obtain ⟨t2, rfl⟩ := r'
      refine zip_begins2 (begins_text x t1) (begins_text y t2) trivial trivial fun h' hz hTI hTO h1 h2 hsz hk => wpAny_pyIter_zip hz ?_
      have I2 : Inv X pins σ H1 { s1 with heap := h' } := I1.kept (t' := s1.toks) hk
      have D : ZipSep2 (s1.heap.objs.size + 4) (s1.heap.objs.size + 2) (s1.heap.objs.size + 3) s1.heap.objs.size (s1.heap.objs.size + 1) [s1.heap.objs.size] [s1.heap.objs.size + 1] := by
        constructor <;> simp <;> omega
      refine ⟨s1.heap.objs.size + 4, [s1.heap.objs.size + 4, s1.heap.objs.size + 2, s1.heap.objs.size + 3, s1.heap.objs.size, s1.heap.objs.size + 1], _, _, H1, rfl, I2, turn_zipS (t1 := t1) (t2 := t2) D, ⟨hz, hTI, ⟨_, _, hTO⟩, ⟨_, h1, rfl, rfl⟩, ⟨_, h2, rfl, rfl⟩⟩, fun c hcm => ?_, q⟩
      have e' : c = s1.heap.objs.size + 4 ∨ c = s1.heap.objs.size + 2 ∨ c = s1.heap.objs.size + 3 ∨ c = s1.heap.objs.size ∨ c = s1.heap.objs.size + 1 := by simpa using hcm
      have hle : s1.heap.objs.size ≤ c := by
        rcases e' with z | z | z | z | z <;> rw [z] <;> omega
      exact I1.fpOk hle (I1.hok.fresh hle)
end L2
namespace L2
open PySem PySem.Spec PyProof.Rows
theorem for_zipS {x y : Str} {g : TG} {tb : TS} {D : Ends} {σ : St} {H : Hp} (Pv : Nat → St → Hp → Prop) (h0 : Pv 0 σ H)
    (hs : ∀ (i c d : Nat) (T : Addr) (σ : St) (H : Hp), x.cps.toList[i]? = some c → y.cps.toList[i]? = some d → Pv i σ H → H T = none → g (.ref T) σ (upd H T (.tup [.str ⟨#[c]⟩, .str ⟨#[d]⟩])) fun σ2 H2 => tb { D with nx := Pv (i + 1), ct := Pv (i + 1), bk := D.nx } σ2 H2)
    (hd : ∀ σ H, Pv (min x.cps.toList.length y.cps.toList.length) σ H → D.nx σ H) :
    ∃ W : Nat → Nat → St → Hp → Prop, (∃ m, W 0 m σ H) ∧ ∀ i m σ H, W i m σ H →
      ((Itzs x y).stop i H ∧ D.nx σ H) ∨ ((Itzs x y).go i H ∧ ∃ N : St → Hp → Prop, (∀ σ' H', N σ' H' → ∃ m', m' < m ∧ W (i + 1) m' σ' H') ∧ ∀ v H', (Itzs x y).yld i H v H' → g v σ H' fun σ2 H2 => tb { D with nx := N, ct := N, bk := D.nx } σ2 H2) := by
  have lx : x.cps.toList.length = x.cps.size := Array.length_toList
  have ly : y.cps.toList.length = y.cps.size := Array.length_toList
  refine ⟨fun i m σ H => m = min x.cps.size y.cps.size - i ∧ i ≤ min x.cps.size y.cps.size ∧ Pv i σ H, ⟨_, rfl, Nat.zero_le _, h0⟩, ?_⟩
  rintro i m σ H ⟨rfl, hi, p⟩
  by_cases hlt : i < min x.cps.size y.cps.size
  · refine .inr ⟨⟨by omega, by omega⟩, Pv (i + 1), fun σ' H' p' => ⟨min x.cps.size y.cps.size - (i + 1), by omega, rfl, hlt, p'⟩, fun v H' yl => ?_⟩
    obtain ⟨T, c, d, rfl, nT, hc, hd, rfl⟩ := yl
    exact hs i c d T σ H (by rw [Array.getElem?_toList]; exact hc) (by rw [Array.getElem?_toList]; exact hd) p nT
  · have e : i = min x.cps.size y.cps.size := by omega
    refine .inl ⟨⟨by omega, by omega, by omega⟩, hd σ H ?_⟩
    rw [lx, ly, ← e]
    exact p
end L2

namespace Lb
/-! ### lags -/
def lcp : List Nat → List Nat → Nat
  | a :: x, b :: y => if a = b then lcp x y + 1 else 0
  | _, _ => 0
def IsLag (a b u v : List Nat) : Prop := ∃ f, a = f ++ u ∧ b = f ++ v ∧ (u = [] ∨ v = [] ∨ u.head? ≠ v.head?)
theorem lcp_le : ∀ x y : List Nat, lcp x y ≤ x.length ∧ lcp x y ≤ y.length
  | [], _ => ⟨Nat.le_refl _, Nat.zero_le _⟩
  | _ :: _, [] => ⟨Nat.zero_le _, Nat.le_refl _⟩
  | a :: x, b :: y => by
    unfold lcp
    have ih := lcp_le x y
    by_cases h : a = b
    · rw [if_pos h, List.length_cons, List.length_cons]
      omega
    · rw [if_neg h]
      exact ⟨Nat.zero_le _, Nat.zero_le _⟩
theorem lcp_lag : ∀ x y : List Nat, IsLag x y (x.drop (lcp x y)) (y.drop (lcp x y))
  | [], y => ⟨[], rfl, rfl, .inl rfl⟩
  | a :: x, [] => ⟨[], rfl, rfl, .inr (.inl rfl)⟩
  | a :: x, b :: y => by
    unfold lcp
    by_cases h : a = b
    · subst h
      rw [if_pos rfl]
      obtain ⟨f, e1, e2, e3⟩ := lcp_lag x y
      exact ⟨a :: f, congrArg (a :: ·) e1, congrArg (a :: ·) e2, e3⟩
    · rw [if_neg h]
      exact ⟨[], rfl, rfl, .inr (.inr fun e => h (Option.some.inj e))⟩
theorem IsLag.uniq {a b u v u' v' : List Nat} (h : IsLag a b u v) (k : IsLag a b u' v') : u = u' ∧ v = v' := by
  obtain ⟨f, e1, e2, e3⟩ := h
  obtain ⟨g, d1, d2, d3⟩ := k
  subst e1
  subst e2
  induction f generalizing g with
  | nil =>
    cases g with
    | nil => exact ⟨d1, d2⟩
    | cons c g =>
      have d1' : u = c :: (g ++ u') := d1
      have d2' : v = c :: (g ++ v') := d2
      subst d1'
      subst d2'
      rcases e3 with e | e | e
      · cases e
      · cases e
      · exact absurd rfl e
  | cons c f ih =>
    cases g with
    | nil =>
      have d1' : c :: (f ++ u) = u' := d1
      have d2' : c :: (f ++ v) = v' := d2
      subst d1'
      subst d2'
      rcases d3 with e | e | e
      · cases e
      · cases e
      · exact absurd rfl e
    | cons d g =>
      have x1 : c :: (f ++ u) = d :: (g ++ u') := d1
      have x2 : c :: (f ++ v) = d :: (g ++ v') := d2
      exact ih g (List.cons.inj x1).2 (List.cons.inj x2).2
theorem IsLag.swap {a b u v : List Nat} (h : IsLag a b u v) : IsLag b a v u := by
  obtain ⟨f, e1, e2, e3⟩ := h
  refine ⟨f, e2, e1, ?_⟩
  rcases e3 with e | e | e
  · exact .inr (.inl e)
  · exact .inl e
  · exact .inr (.inr fun z => e z.symm)
/-- moved on -/
theorem IsLag.more {a b u v x y u' v' : List Nat} (h : IsLag a b u v) (k : IsLag (u ++ x) (v ++ y) u' v') : IsLag (a ++ x) (b ++ y) u' v' := by
  obtain ⟨f, e1, e2, e3⟩ := h
  obtain ⟨g, d1, d2, d3⟩ := k
  refine ⟨f ++ g, ?_, ?_, d3⟩
  · rw [e1, List.append_assoc, d1, List.append_assoc]
  · rw [e2, List.append_assoc, d2, List.append_assoc]
theorem IsLag.front {a b u v : List Nat} (c : List Nat) (h : IsLag a b u v) : IsLag (c ++ a) (c ++ b) u v := by
  obtain ⟨f, e1, e2, e3⟩ := h
  exact ⟨c ++ f, by rw [e1, List.append_assoc], by rw [e2, List.append_assoc], e3⟩
theorem IsLag.idem {a b u v : List Nat} (h : IsLag a b u v) : IsLag u v u v := by
  obtain ⟨f, e1, e2, e3⟩ := h
  exact ⟨[], rfl, rfl, e3⟩
theorem IsLag.le {a b u v : List Nat} (h : IsLag a b u v) : u.length ≤ a.length ∧ v.length ≤ b.length := by
  obtain ⟨f, e1, e2, e3⟩ := h
  rw [e1, e2, List.length_append, List.length_append]
  omega
theorem lcp_step {x y : List Nat} {i : Nat} {c d : Nat} (h : x.take i = y.take i) (hc : x[i]? = some c) (hd : y[i]? = some d) : (c = d → x.take (i + 1) = y.take (i + 1)) ∧ (c ≠ d → lcp x y = i) := by
  refine ⟨fun e => ?_, fun n => ?_⟩
  · subst e
    rw [List.take_add_one, List.take_add_one, h, hc, hd]
  · induction i generalizing x y with
    | zero =>
      cases x with
      | nil => cases hc
      | cons a x =>
        cases y with
        | nil => cases hd
        | cons b y =>
          have e1 : a = c := Option.some.inj hc
          have e2 : b = d := Option.some.inj hd
          unfold lcp
          rw [e1, e2, if_neg n]
    | succ i ih =>
      cases x with
      | nil => cases hc
      | cons a x =>
        cases y with
        | nil => cases hd
        | cons b y =>
          have e : a :: x.take i = b :: y.take i := h
          unfold lcp
          rw [if_pos (List.cons.inj e).1, ih (List.cons.inj e).2 hc hd]
theorem lcp_all {x y : List Nat} (h : x.take (min x.length y.length) = y.take (min x.length y.length)) : lcp x y = min x.length y.length := by
  induction x generalizing y with
  | nil =>
    show 0 = _
    rw [List.length_nil, Nat.zero_min]
  | cons a x ih =>
    cases y with
    | nil => rfl
    | cons b y =>
      rw [List.length_cons, List.length_cons, Nat.succ_min_succ] at *
      have e : a :: x.take (min x.length y.length) = b :: y.take (min x.length y.length) := h
      unfold lcp
      rw [if_pos (List.cons.inj e).1, ih (List.cons.inj e).2]
end Lb

namespace Lb
open PySem PySem.Spec PyProof.Rows L2
/-! ### the store that the draws come from -/
/-- the draws' store at a, its cells at c -/
def Sto (H : Hp) (a c : Addr) : Prop := ∃ (ns : List Int) (i b t s : Int), H a = some (.lst [.ref c, .int i, .int b, .int t, .int s]) ∧ H c = some (.lst (ns.map V.int)) ∧ 0 ≤ i ∧ c ≠ a
theorem Sto.to {H H' : Hp} {a c : Addr} (h : Sto H a c) (e1 : H' a = H a) (e2 : H' c = H c) : Sto H' a c := by
  obtain ⟨ns, i, b, t, s, h1, h2, h3, h4⟩ := h
  exact ⟨ns, i, b, t, s, e1.trans h1, e2.trans h2, h3, h4⟩
theorem Sto.same [Tabl] {H H' : Hp} {a c : Addr} (h : Sto H a c) (e : Same H H') : Sto H' a c := by
  obtain ⟨ns, i, b, t, s, h1, h2, h3, h4⟩ := h
  exact ⟨ns, i, b, t, s, e _ _ h1, e _ _ h2, h3, h4⟩
theorem Sto.new {H : Hp} {a c p : Addr} {o : HO} (h : Sto H a c) (e : H p = none) : Sto (upd H p o) a c := by
  obtain ⟨ns, i, b, t, s, h1, h2, h3, h4⟩ := h
  exact ⟨ns, i, b, t, s, by rw [upd_ne (ne_of_none h1 e)]; exact h1, by rw [upd_ne (ne_of_none h2 e)]; exact h2, h3, h4⟩
theorem Sto.ne {H : Hp} {a c p : Addr} (h : Sto H a c) (e : H p = none) : p ≠ a ∧ p ≠ c := by
  obtain ⟨ns, i, b, t, s, h1, h2, h3, h4⟩ := h
  exact ⟨fun z => (by rw [z, h1] at e; cases e), fun z => (by rw [z, h2] at e; cases e)⟩
theorem Sto.put {H : Hp} {a c p : Addr} {o : HO} (h : Sto H a c) (n : p ≠ a ∧ p ≠ c) : Sto (upd H p o) a c :=
  h.to (upd_ne (Ne.symm n.1)) (upd_ne (Ne.symm n.2))
theorem ints_at {ns : List Int} {i : Int} (h0 : 0 ≤ i) (h1 : i < ((ns.map V.int).length : Nat)) : ∃ n, atI (ns.map V.int) i = some (.int n) := by
  obtain ⟨j, rfl⟩ := Int.eq_ofNat_of_zero_le h0
  have hj : j < ns.length := by
    rw [List.length_map] at h1
    exact Int.ofNat_lt.mp h1
  exact ⟨ns[j], atI_nat (by rw [List.getElem?_map, List.getElem?_eq_getElem hj]; rfl)⟩
theorem ne1 {P : Prop} [Decidable P] (h : P) : decide P = true := decide_eq_true h
theorem ne0 {P : Prop} [Decidable P] (h : ¬ P) : decide P = false := decide_eq_false h
theorem iteC {c : Bool} {A B : Prop} (h : c = true) (a : A) : if c = true then A else B := by
  rw [if_pos h]
  exact a
theorem iteN {c : Bool} {A B : Prop} (h : c = false) (b : B) : if c = true then A else B := by
  rw [h]
  exact iteF b
/-- a row that is not come to -/
theorem ps_dead {X : Cx} {s : Stmt} : PS X s (fun _ _ _ => False) := ⟨fun _ _ _ _ _ _ h => h.elim⟩
end Lb

namespace L2
open PySem PySem.Spec PyProof.Rows
theorem pip_of {X : Cx} {op : Operator} {r : TIp} (h : OpR X (inplaceOp op) r) : PIp X op r := fun pins s σ H x y v u Q I r1 r2 q => h pins s σ H x y v u Q I r1 r2 q
/-! min, max of a list of texts -/
def rMinS (K : PySem.W.Frag) : List V → Hp → VK → Prop := fun vs H Q => ∃ (a : Addr) (x : Str) (xs : List Str), vs = [V.ref a] ∧ SqL K H a ((x :: xs).map V.str) ∧ Q (.str (PySem.W.minOf x xs)) H
def rMaxS (K : PySem.W.Frag) : List V → Hp → VK → Prop := fun vs H Q => ∃ (a : Addr) (x : Str) (xs : List Str), vs = [V.ref a] ∧ SqL K H a ((x :: xs).map V.str) ∧ Q (.str (PySem.W.maxOf x xs)) H
theorem cr_minS {X : Cx} (hc : X.calm = true) (hu : X.A.units + 64 < cLine) : CallR X (.builtin "min") (rMinS X.K) := by
  intro pins s σ H vs us Q I r h
  obtain ⟨a, x, xs, rfl, hs, q⟩ := h
  obtain ⟨its, rv, hl, _⟩ := I.list hs
  rw [Vals.ref1 r]
  have hd : PySem.W.Datum.depth Str ≤ 1 := by decide
  exact PySem.W.min_list_datum (x := x) (xs := xs) (I.ok.hd hc) hl.isList (PySem.W.HoldAll.of_strs rv.strs) (by omega) fun i v h' tk hi hv hk =>
    ⟨.str (PySem.W.minOf x xs), H, I.kept hk, PySem.W.str_of_holds hv, q⟩
theorem cr_maxS {X : Cx} (hc : X.calm = true) (hu : X.A.units + 64 < cLine) : CallR X (.builtin "max") (rMaxS X.K) := by
  intro pins s σ H vs us Q I r h
  obtain ⟨a, x, xs, rfl, hs, q⟩ := h
  obtain ⟨its, rv, hl, _⟩ := I.list hs
  rw [Vals.ref1 r]
  have hd : PySem.W.Datum.depth Str ≤ 1 := by decide
  exact PySem.W.max_list_datum (x := x) (xs := xs) (I.ok.hd hc) hl.isList (PySem.W.HoldAll.of_strs rv.strs) (by omega) fun i v h' tk hi hv hk =>
    ⟨.str (PySem.W.maxOf x xs), H, I.kept hk, PySem.W.str_of_holds hv, q⟩
/-! rules that name the written part: for the inside of a comprehension -/
theorem ix_listK {X : Cx} (K : PySem.W.Frag) (h : X.K = K) : IxR X (rIxL K) := by
  subst h
  exact ix_list
theorem ix_tupK {X : Cx} (K : PySem.W.Frag) (h : X.K = K) : IxR X (rIxT K) := by
  subst h
  exact ix_tup
theorem op_in_seqK {X : Cx} (K : PySem.W.Frag) (h : X.K = K) : OpR X (compareOp .In) (rIn K false) := by
  subst h
  exact op_in_seq
theorem op_notIn_seqK {X : Cx} (K : PySem.W.Frag) (h : X.K = K) : OpR X (compareOp .NotIn) (rIn K true) := by
  subst h
  exact op_notIn_seq
theorem call_len_seqK {X : Cx} (K : PySem.W.Frag) (h : X.K = K) : CallR X (.builtin "len") (fun xs H Q => ∃ p ys, xs = [.ref p] ∧ (SqL K H p ys ∨ SqT K H p ys) ∧ Q (.int ys.length) H) := by
  subst h
  exact call_len_seq
end L2

namespace Lb
open PySem PySem.Spec PyProof.Rows L2
/-- a def of the text, its code object at c -/
structure FunC (K : PySem.W.Frag) (x qual : Str) (st : Stmt) (f : Addr) (fd : FuncData) (c : Addr) : Prop where
  F : Fun K x qual st f fd
  code : fd.code = .ref c
theorem FunC.ok {P : Program} {w : World} {K : PySem.W.Frag} {mg : Str → Option Value} {base : Heap} {x qual : Str} {st : Stmt} {f c : Addr} {fd : FuncData} {N ps : List Str} {k : Nat} {sp : Sp} (F : FunC K x qual st f fd c) (S : FnScope N ps (defScope st)) (len : ∀ vs H Q E, sp vs H Q E → vs.length = ps.length)
    (body : ∀ (A : Around) (outer : List Env) (s : Shared) (H : Hp) (vs : List V) (Q : VK) (E : XK), Room k (A.deeper (envOfC qual (defScope st) s.heap.objs.size f (.ref c))) → sp vs H Q E → ∃ t, PSs (cxOf CX0 P w K mg base N qual (defScope st) f (.ref c) A outer s H E).nox (defBody st) t ∧ t { nx := fun _ H' => Q .non H', rt := Q } (start N vs) H) :
    FnOk P w K mg base CX0 (k + 1) f fd ps sp := by
  obtain ⟨⟨⟨_, _, _, _, _, _, cdv, _, _, e, l, cd⟩, _⟩, code⟩ := F
  rw [e] at code
  have ec : cdv = .ref c := code
  rw [e] at l ⊢
  rw [ec] at l cd ⊢
  exact fn_of l cd S len fun A outer s H vs Q E hr hs => let ⟨t, h, q⟩ := body A outer s H vs Q E hr hs; ⟨t, h.nox, q⟩
theorem FunC.kp {K : PySem.W.Frag} {x qual : Str} {st : Stmt} {f c : Addr} {fd : FuncData} (F : FunC K x qual st f fd c) : PySem.W.keepIn K (.ref f) = true := F.F.kp
end Lb

namespace GQ
open PySem PySem.Spec PyProof.Rows L2 GxR
open Lb (Tabl Good)
/-! ### all(.. for x in e), any(..) over a text e, where the test looks at names of the def or of the module
`Elt`: what the test is worth for the sign c in the generator's own frame; h1 is the heap behind e, and all of it but the table at P stands there -/
def Elt (X : Cx) (P : Addr) (h1 : Heap) (scope : Scope) (x : Str) (elt : Expr) (pb : Nat → Bool) : Prop :=
  ∀ (env : Env) (A' : Around) (E' : Value → Shared → Prop) (c : Nat) (t : Tok) (r : Shared) (m : Str → Option Value), env.scope = scope → env.cells = cloFrom X.env.cells scope.names [] → env.globals = X.env.globals → A'.handled = none →
    r.heap.Ns env.locals m → m x = some (.str ⟨#[c]⟩ t) → (∀ b u, b ≠ P → h1.get? b = some u → r.heap.get? b = some u) → wpAny (model X.prog X.w) A' (eval elt env) (fun y r' => y = .bool (pb c) ∧ Keeps r r') E' r
/-- the walk over the signs: the i-th answer -/
def Ans (pb : Nat → Bool) (a : Str) : Nat → Value → Prop := fun i y => ∃ cc, a.cps[i]? = some cc ∧ y = .bool (pb cc)
theorem ans_truth {prog : Program} {w : World} {A : Around} {pb : Nat → Bool} {a : Str} {n : Nat} (hn : n = a.cps.size) :
    TruthOf prog w A (fun j y => ∃ i, (List.range n)[j]? = some i ∧ Ans pb a i y) (trF pb a.cps.toList) := by
  intro j y sj Qj Ej hy hq
  obtain ⟨i, hij, cc, hcc, rfl⟩ := hy
  have hj : j < (List.range n).length := (List.getElem?_eq_some_iff.mp hij).1
  rw [List.getElem?_eq_getElem hj, List.getElem_range] at hij
  cases hij
  have ht : a.cps.toList[j]? = some cc := (Array.getElem?_toList ..).trans hcc
  have hq' : Qj (trF pb a.cps.toList j) sj := hq
  rw [trF_some ht] at hq'
  exact wpAny_truthy_bool hq'
section
variable {X : Cx} {pins : List (Addr × Obj)} {σ : L2.St} {H : Hp} {s : Shared}
variable [Tabl]
/-- the generator over the signs of a, ready to be walked in the state s5 -/
def GoesOver (X : Cx) (pins : List (Addr × Obj)) (σ : L2.St) (H1 : Hp) (a : Str) (pb : Nat → Bool) (g : Addr) (s5 : Shared) : Prop :=
  ∃ (fp wr : List Addr) (G : Array GenState → Array GenState → Prop) (F : Nat → Value → Prop) (St : Nat → Shared → Prop), WalksS X.prog X.w X.A.in1 g fp wr G a.cps.size F St ∧ St 0 s5 ∧ TruthOf X.prog X.w X.A.in1 F (trF pb a.cps.toList) ∧
    ∀ s', Moved wr G s5 s' → ∃ H2, Lb.Same H1 H2 ∧ Inv X pins σ H2 s'
theorem gen_txt {c P : Addr} {elt iter : Expr} {x : Str} {px gpos : Pos} {scope : Scope} {te : TE} {k : Nat} {Q' : Value → Shared → Prop} {R : Str → (Nat → Bool) → Hp → Prop} {Cn : L2.St → Hp → (Nat → Bool) → Prop}
    (hr : Room k X.A) (TB : LamX.TabB X.base X.mg c P) (hmem : (P, X.env.qual ++ "<genexpr>") ∈ Tabl.T) (hcode : X.env.code = .ref c) (S : GenS X.env scope x) (hi : PE X iter te)
    (hel : ∀ (σ : L2.St) (H1 : Hp) (s1 : Shared) (pb : Nat → Bool), Inv X pins σ H1 s1 → Good H1 → Cn σ H1 pb → Elt X P s1.heap scope x elt pb) (hs : ∀ v, genFold iter X.env v = pure v) (I : Inv X pins σ H s)
    (h : te σ H fun v H1 => ∃ (a : Str) (pb : Nat → Bool), v = .str a ∧ Good H1 ∧ Cn σ H1 pb ∧ R a pb H1)
    (hQ : ∀ a pb H1 g s5, R a pb H1 → GoesOver X pins σ H1 a pb g s5 → Q' (.ref g) s5) :
    wpAny (model X.prog X.w) X.A (eval (.GeneratorExp elt [⟨.Name x px, iter, [], 0⟩] scope gpos) X.env) Q' X.xe s := by
  have hd := hr.dp
  refine wpAny_GeneratorExp_walksQ hr.hd S.co (closure_ok S.free) S.cell S.dot S.loc S.kind (by omega) ?_ hs
  refine thn (hi.run pins s σ H _ I h) fun xv s1 hx1 => ?_
  obtain ⟨v, H1, I1, r1, a, pb, rfl, good, cn, rr⟩ := hx1
  obtain ⟨ps, tabP, tri, bears⟩ := good _ hmem
  obtain ⟨tk0, rfl⟩ := _root_.id r1
  have E1 := hel σ H1 s1 pb I1 good cn
  refine wpAny_pyIter_str fun io St W st0 => ?_
  -- the heap with the iterator: hp
  have oldP : s1.heap.get? P = some { cls := .none, data := .fields ps } := I1.hok P _ tabP
  have ltP : P < s1.heap.objs.size := Heap.lt_size oldP
  have nowP : (s1.heap.push io).get? P = some { cls := .none, data := .fields ps } := Heap.get?_push_of_some _ oldP
  have codeH : PySem.W.CodeHd (s1.heap.push io) c P := TB.code.keeps fun b u e => Heap.get?_push_of_some _ (I1.bk b u e)
  have nolim : (s1.heap.push io).NoLimit := I1.nolimit.push io
  have szp : (s1.heap.push io).objs.size = s1.heap.objs.size + 1 := Heap.size_push ..
  refine ⟨nolim, ?_⟩
  -- what is owed once the code object is there: h3, its table ps3
  have owed : ∀ (code : Value) (h3 : Heap) (tk : Nat) (ps3 : Array Value), Heap.ExtBut P (s1.heap.push io) h3 → (s1.heap.push io).objs.size ≤ h3.objs.size → h3.get? P = some { cls := .none, data := .fields ps3 } → (∀ (s' : Shared), (∀ b u, b ≠ P → s1.heap.get? b = some u → s'.heap.get? b = some u) → s'.heap.get? P = some { cls := .none, data := .fields ps3 } → (∀ b u, s1.heap.objs.size < b → b < h3.objs.size → h3.get? b = some u → s'.heap.get? b = some u) → AllBare s'.gens → s'.os = s1.os → ∃ H2, Lb.Same H1 H2 ∧ Inv X pins σ H2 s') →
      wpAny (model X.prog X.w) X.A (builtinsFor X.env.globals X.env.builtins) (fun bi s₄ =>
        ∃ Ia fp wr n₀ Pf St₀ pz F, Value.ref s1.heap.objs.size = .ref Ia ∧ (∀ A' : Around, A'.handled = none → Walks X.prog X.w A' Ia fp wr n₀ Pf St₀) ∧ St₀ 0 s₄.heap ∧ (∀ b ∈ fp, b < s₄.heap.objs.size) ∧ s₄.heap.NoLimit ∧ cStatics ∉ wr ∧
          (∀ href : Heap, (∀ b o, s₄.heap.get? b = some o → href.get? b = some o) →
            QuietGen X.prog X.w (genEnv scope (cloFrom X.env.cells scope.names []) s₄.heap.objs.size code bi X.env) x [] elt (List.range s₄.heap.objs.size) wr Pf pz F href) ∧
          (∀ ga h₅ tk gs, gs.bare = true → s₄.heap.objs.size < ga → h₅.objs.size = ga + 1 → (∀ b o, s₄.heap.get? b = some o → h₅.get? b = some o) →
            WalksS X.prog X.w X.A.in4 ga (ga :: s₄.heap.objs.size :: List.range s₄.heap.objs.size) (s₄.heap.objs.size :: wr) (GenOnlyQ s₄.gens.size) (passing pz n₀ 0).length
              (fun j y => ∃ i, (passing pz n₀ 0)[j]? = some i ∧ F i y) (GenAt X.prog X.w X.A.in4 ga s₄.gens.size s₄.heap.objs.size (List.range s₄.heap.objs.size) wr pz n₀ F) →
            GenAt X.prog X.w X.A.in4 ga s₄.gens.size s₄.heap.objs.size (List.range s₄.heap.objs.size) wr pz n₀ F 0 { s₄ with gens := s₄.gens.push gs, toks := tk, heap := h₅ } →
            Q' (.ref ga) { s₄ with gens := s₄.gens.push gs, toks := tk, heap := h₅ })) X.xe { s1 with heap := h3, toks := tk } := by
    intro code h3 tk ps3 ext3 sz3 at3 fin
    obtain ⟨bm, ob, b1, b2, b3, b4, b5, b6, b7, b8⟩ := TB.bm
    have stat : cStatics < s1.heap.objs.size ∧ cStatics ≠ P := by
      obtain ⟨_, hns, _⟩ := I1.nolimit
      refine ⟨hns.lt, fun e => ?_⟩
      obtain ⟨o', es, ep, ho, hdt, _⟩ := hns
      rw [e, oldP] at ho
      cases ho
      cases hdt
    have kept : ∀ b u, b ≠ P → s1.heap.get? b = some u → h3.get? b = some u := fun b u hb e => ext3 b u hb (Heap.get?_push_of_some _ e)
    have glob3 : h3.Ns X.env.globals X.mg := by
      rw [I1.ok.glob]
      exact ((I1.mod.glob.keeps I1.bk).push io).extBut ext3 TB.gP
    refine wpAny_builtinsFor (m := X.mg) glob3 b1 b2 (kept _ _ b4 (I1.bk _ _ b5)) b6 b7 b8 ?_
    have itlt : s1.heap.objs.size < h3.objs.size := by omega
    refine ⟨s1.heap.objs.size, [s1.heap.objs.size], [s1.heap.objs.size], a.cps.size, SignAt a, St, (fun _ => true), Ans pb a, rfl, W, ?_, fun b hb => ?_, nolim.extBut ext3 stat.2, fun z => ?_, fun href hold => ?_, ?_⟩
    · refine (W X.A hr.hd).frame _ _ _ st0 fun b hb u e => ext3 b u (fun z => ?_) e
      have eb := List.mem_singleton.mp hb
      exact Nat.ne_of_lt ltP (z.symm.trans eb)
    · rw [List.mem_singleton.mp hb]
      exact itlt
    · exact Nat.ne_of_lt stat.1 (List.mem_singleton.mp z)
    · constructor
      · intro A' E' i v r m hA hv hn hm hk
        rw [List.forIn_nil]
        exact wpAny_pure ⟨rfl, keeps_refl _⟩
      · intro A' E' i v r m hA hv hp hn hm hk
        obtain ⟨cc, u, hcc, rfl⟩ := hv
        refine wpAny_mono (E1 _ A' E' cc u r m rfl rfl rfl hA hn hm fun b u hb e => ?_) (fun y r' q => ⟨⟨cc, hcc, q.1⟩, q.2⟩) fun _ _ e => e
        have lb : b < s1.heap.objs.size := Heap.lt_size e
        exact hk b (List.mem_range.mpr (Nat.lt_trans lb itlt)) (fun z => Nat.ne_of_lt lb (List.mem_singleton.mp z)) u (hold b u (kept b u hb e))
    · intro g h5 tk5 gs bare5 lt5 sz5 keep5 W5 at5
      simp only [List.length_range, GxR.passing_true] at W5
      refine hQ a pb H1 g _ rr ⟨_, _, _, _, _, W5.in4_1, at5, ans_truth rfl, fun s' mv => ?_⟩
      have outside : ∀ b u, s1.heap.get? b = some u → b ∉ h3.objs.size :: [s1.heap.objs.size] := fun b u e hb => by
        have lb : b < s1.heap.objs.size := Heap.lt_size e
        rw [List.mem_cons, List.mem_singleton] at hb
        rcases hb with z | z
        · rw [z] at lb
          exact Nat.lt_irrefl _ (Nat.lt_trans itlt lb)
        · rw [z] at lb
          exact Nat.lt_irrefl _ lb
      exact fin s' (fun b u hb e => mv.heap b u (outside b u e) (keep5 b u (kept b u hb e))) (mv.heap P _ (outside P _ oldP) (keep5 P _ at3)) (fun b u l1 l2 e => mv.heap b u (fun hb => by
        rw [List.mem_cons, List.mem_singleton] at hb
        rcases hb with z | z
        · rw [z] at l2
          exact Nat.lt_irrefl _ l2
        · rw [z] at l1
          exact Nat.lt_irrefl _ l1) (keep5 b u e)) (AllBare.movedS (I1.bare.push bare5) mv) mv.os
  -- the table as it was
  have asIs : ∀ s' : Shared, (∀ b u, b ≠ P → s1.heap.get? b = some u → s'.heap.get? b = some u) → s'.heap.get? P = some { cls := .none, data := .fields ps } → AllBare s'.gens → s'.os = s1.os → ∃ H2, Lb.Same H1 H2 ∧ Inv X pins σ H2 s' := fun s' k1 k2 k3 k4 => by
    have J := inv_tab (more := #[]) (h' := s'.heap) (g' := s'.gens) (d' := s'.drawn) (t' := s'.toks) I1 tabP k1 (by rw [Array.append_empty]; exact k2) k3
    rw [sh_eta s1 s' k4, Array.append_empty] at J
    have e : upd H1 P (.tbl ps) = H1 := by
      funext b
      by_cases z : b = P
      · rw [z, upd_same]
        exact tabP.symm
      · exact upd_ne z
    rw [e] at J
    exact ⟨H1, .refl H1, J⟩
  cases hit : codeAmong gpos ps.toList with
  | some cv => exact wpAny_genexprCode_hit hcode (codeH.code nowP tri) hit (owed cv _ s1.toks ps (Heap.ExtBut.refl _ _) (Nat.le_refl _) nowP fun s' k1 k2 _ k3 k4 => asIs s' k1 k2 k3 k4)
  | none =>
    refine wpAny_genexprCodeX hcode (codeH.code nowP tri) (codeH.tab nowP) hit fun c' h' tk hx hge hlt hco' hrec htab' _ => ?_
    obtain ⟨c2, oc, vs, t, e2, hoc, hdc, hvc⟩ := hrec
    cases e2
    refine owed _ h' tk _ hx (Nat.le_trans hge (Nat.le_of_lt hlt)) htab'.2 fun s' k1 k2 k5 k3 k4 => ?_
    have hge0 : (s1.heap.push io).objs.size ≤ c' := hge
    rw [szp] at hge0
    have hge1 : s1.heap.objs.size < c' := hge0
    have nC : H1 c' = none := I1.hok.fresh (Nat.le_of_lt hge1)
    have J0 := LamX.inv_table (q := X.env.qual ++ "<genexpr>") (h' := s'.heap) (t' := s'.toks) I1 tabP k1 k2 (Nat.le_of_lt hge1) ⟨oc, vs, t, k5 _ _ hge1 hlt hoc, hdc, hvc⟩
    have atP : upd (upd H1 P (.tbl (ps ++ #[rawInt gpos.line, rawInt gpos.col, .ref c']))) c' (LamX.CodeO c' (X.env.qual ++ "<genexpr>")) P = some (.tbl (ps ++ #[rawInt gpos.line, rawInt gpos.col, .ref c'])) := by
      rw [upd_ne (ne_of_none tabP nC), upd_same]
    have J := inv_tab (more := #[]) (h' := s'.heap) (g' := s'.gens) (d' := s'.drawn) (t' := s'.toks) J0 atP (fun b u _ e => e) (by rw [Array.append_empty]; exact k2) k3
    have es : ({ s1 with heap := s'.heap, gens := s'.gens, drawn := s'.drawn, toks := s'.toks } : Shared) = s' := sh_eta s1 s' k4
    have J : Inv X pins σ _ ({ s1 with heap := s'.heap, gens := s'.gens, drawn := s'.drawn, toks := s'.toks } : Shared) := J
    rw [es, Array.append_empty] at J
    have eP : ∀ (G : Hp) (o : HO), G P = some o → upd G P o = G := fun G o hG => by
      funext b
      by_cases z : b = P
      · rw [z, upd_same]
        exact hG.symm
      · exact upd_ne z
    rw [eP _ _ atP] at J
    refine ⟨_, Lb.same_code tabP tri bears nC hmem, J⟩
/-- behind it the def's table may have grown -/
def tAll (Cn : L2.St → Hp → (Nat → Bool) → Prop) (te : TE) : TE := fun σ H Q => te σ H fun v H1 => ∃ (a : Str) (pb : Nat → Bool), v = .str a ∧ Good H1 ∧ Cn σ H1 pb ∧ ∀ H2, Lb.Same H1 H2 → Q (.bl (a.cps.toList.all pb)) H2
theorem pe_all {c P : Addr} {elt iter : Expr} {x : Str} {px p pos gpos : Pos} {scope : Scope} {Cn : L2.St → Hp → (Nat → Bool) → Prop} {te : TE} {k : Nat}
    (hr : Room k X.A) (hg : Gl X "all") (hm : X.mg "all" = none) (TB : LamX.TabB X.base X.mg c P) (hmem : (P, X.env.qual ++ "<genexpr>") ∈ Tabl.T) (hcode : X.env.code = .ref c) (S : GenS X.env scope x) (hi : PE X iter te)
    (hel : ∀ (pins : List (Addr × Obj)) (σ : L2.St) (H1 : Hp) (s1 : Shared) (pb : Nat → Bool), Inv X pins σ H1 s1 → Good H1 → Cn σ H1 pb → Elt X P s1.heap scope x elt pb) (hs : ∀ v, genFold iter X.env v = pure v := by intro _; rfl)
    (hb : bootBuiltins "all" = some (.builtin "all") := by decide +kernel)
    (he : starEach [.GeneratorExp elt [⟨.Name x px, iter, [], 0⟩] scope gpos] X.env = (false, eval (.GeneratorExp elt [⟨.Name x px, iter, [], 0⟩] scope gpos) X.env) :: starEach [] X.env := by rfl) :
    PE X (.Call (.Name "all" p) [.GeneratorExp elt [⟨.Name x px, iter, [], 0⟩] scope gpos] [] pos) (tAll Cn te) := by
  refine ⟨fun pins s σ H Q I h => wpAny_Call_Name_kw (ld_blt I hg hm hb (PyProof.Rows.callWith_builtin1 ?_ he (by rfl)))⟩
  rw [he]
  refine Calls.spliced_cons (gen_txt (R := fun a pb H1 => ∀ H2, Lb.Same H1 H2 → Q (.bl (a.cps.toList.all pb)) H2) hr TB hmem hcode S hi (hel pins) hs I h fun a pb H1 g s5 hR ready => ?_)
  obtain ⟨fp, wr, G, F, St, W, st0, tr, fin⟩ := ready
  refine Calls.spliced_nil (call_all_walkS (W.self 0 _ _ _ st0 ⟨g, fp, wr, G, _, F, St, _, rfl, W, st0, tr, fun s' mv => ?_⟩))
  obtain ⟨H2, hT, J⟩ := fin s' mv
  refine ⟨.bl _, H2, J, rfl, ?_⟩
  rw [all_signs a pb]
  exact hR H2 hT
/-- x in y, y a text that a name of the def holds -/
def CnVar (i : Nat) : L2.St → Hp → (Nat → Bool) → Prop := fun σ _ pb => ∃ z : Str, σ[i]? = some (some (.str z)) ∧ pb = fun c => decide (c ∈ z.cps.toList)
/-- x in y, y a text of the module -/
def CnGl (z : Str) : L2.St → Hp → (Nat → Bool) → Prop := fun _ _ pb => pb = fun c => decide (c ∈ z.cps.toList)
theorem elt_var {P : Addr} {scope : Scope} {x y : Str} {i : Nat} {p1 p2 p3 : Pos} {pb : Nat → Bool} (S : GenS X.env scope x) (hy : scope.names.lookup y = some .free) (hm : (y, NameKind.free) ∈ scope.names) (hN : X.N[i]? = some y) (hv : X.env.scope.names.lookup y = some .cell)
    (I : Inv X pins σ H s) (tb : TabG H P) (cn : CnVar i σ H pb) (hd : (x == ("__debug__" : Str)) = false := by decide) (hd' : (y == ("__debug__" : Str)) = false := by decide) (hcd : (y == ("__classdict__" : Str)) = false := by decide) :
    Elt X P s.heap scope x (.Compare (.Name x p1) [.In] [.Name y p2] p3) pb := by
  obtain ⟨z, hz, rfl⟩ := cn
  obtain ⟨m0, hn0, look⟩ := I.loc
  obtain ⟨u, ru, lk⟩ := look i y _ hN hz (.inr (.inl hv))
  obtain ⟨tz, rfl⟩ := ru
  have cellAt : ∃ c0, X.env.cells.lookup y = some c0 ∧ s.heap.IsCell c0 (some (.str z tz)) := by
    rcases lk with ⟨hk, _⟩ | ⟨_, r⟩
    · have hk' : X.env.scope.names.lookup y = some .local := hk
      rw [hv] at hk'
      cases hk'
    · exact r
  obtain ⟨c0, hc0, o0, ho0, hd0⟩ := cellAt
  intro env A' E' c t r m hs hcl hg hA hn hx keep
  have kd : env.scope.kind = .function := by rw [hs]; exact S.kind
  have notP : c0 ≠ P := fun e => by
    obtain ⟨ps, hP, _⟩ := tb
    have hP' : s.heap.get? P = some { cls := .none, data := .fields ps } := I.hok P _ hP
    rw [e, hP'] at ho0
    cases ho0
    cases hd0
  have lx : env.kindOf x = some .local := by show env.scope.names.lookup x = _; rw [hs]; exact S.loc
  have ly : env.kindOf y = some .free := by show env.scope.names.lookup y = _; rw [hs]; exact hy
  have clo : env.cells.lookup y = some c0 := by rw [hcl]; exact NdefX.clo_has S.free hm hc0
  refine wpAny_Compare1 (wpAny_Name (wpAny_loadName_local kd lx hn hx ?_) hd)
  refine wpAny_Name (wpAny_loadName_free kd ly clo ⟨o0, keep c0 o0 notP ho0, hd0⟩ ?_ hcd) hd'
  exact PyProof.Rows.in_str ⟨congrArg Value.bool (PySem.StrLaws.found_one z c), keeps_refl r⟩
theorem elt_glob {P : Addr} {scope : Scope} {x y : Str} {z : Str} {tz : Tok} {p1 p2 p3 : Pos} {pb : Nat → Bool} (S : GenS X.env scope x) (hy : scope.names.lookup y = some .globalImplicit) (hm : X.mg y = some (.str z tz)) (gP : mainGlobals ≠ P)
    (I : Inv X pins σ H s) (cn : CnGl z σ H pb) (hd : (x == ("__debug__" : Str)) = false := by decide) (hd' : (y == ("__debug__" : Str)) = false := by decide) :
    Elt X P s.heap scope x (.Compare (.Name x p1) [.In] [.Name y p2] p3) pb := by
  cases cn
  intro env A' E' c t r m hs hcl hg hA hn hx keep
  have kd : env.scope.kind = .function := by rw [hs]; exact S.kind
  have lx : env.kindOf x = some .local := by show env.scope.names.lookup x = _; rw [hs]; exact S.loc
  have ly : env.kindOf y = some .globalImplicit := by show env.scope.names.lookup y = _; rw [hs]; exact hy
  have gl : r.heap.Ns env.globals X.mg := by
    rw [hg, I.ok.glob]
    exact (I.mod.glob.keeps I.bk).at fun o e => keep _ o gP e
  refine wpAny_Compare1 (wpAny_Name (wpAny_loadName_local kd lx hn hx ?_) hd)
  refine Calls.Name_function_global kd ly (Calls.loadGlobal_global gl hm ?_) hd'
  exact PyProof.Rows.in_str ⟨congrArg Value.bool (PySem.StrLaws.found_one z c), keeps_refl r⟩
/-! ### the generator's names, told by the scopes alone -/
structure GenB (sc scope : Scope) (x : Str) : Prop where
  kind : scope.kind = .function
  co : scope.isCoroutine = false
  cell : ∀ y ∈ scope.names, y.2 ≠ .cell
  dot : scope.names.lookup (".0" : Str) = some NameKind.local
  loc : scope.names.lookup x = some .local
  free : ∀ y ∈ scope.names, y.2 = .free → sc.names.lookup y.1 = some .cell ∨ sc.names.lookup y.1 = some .free
def genBB (sc scope : Scope) (x : Str) : Bool :=
  decide (scope.kind = .function) && !scope.isCoroutine && decide (scope.names.lookup (".0" : Str) = some NameKind.local) && decide (scope.names.lookup x = some .local) && scope.names.all fun y => !decide (y.2 = .cell) && (!decide (y.2 = .free) || decide (sc.names.lookup y.1 = some .cell) || decide (sc.names.lookup y.1 = some .free))
theorem genB_by {sc scope : Scope} {x : Str} (h : genBB sc scope x = true) : GenB sc scope x := by
  unfold genBB at h
  simp only [Bool.and_eq_true, Bool.or_eq_true, Bool.not_eq_true', decide_eq_true_eq, decide_eq_false_iff_not, List.all_eq_true] at h
  obtain ⟨⟨⟨⟨a1, a2⟩, a3⟩, a4⟩, a5⟩ := h
  refine ⟨a1, a2, fun y m => (a5 y m).1, a3, a4, fun y m e => ?_⟩
  rcases (a5 y m).2 with (z | z) | z
  · exact absurd e z
  · exact .inl z
  · exact .inr z
theorem GenB.S {scope : Scope} {x : Str} (B : GenB X.env.scope scope x) (ok : X.Ok) : GenS X.env scope x := ⟨B.kind, B.co, B.cell, B.dot, B.loc, fun y m e => ok.has _ (B.free y m e)⟩
theorem pe_weak {e : Expr} {te : TE} (h : PE X e te) : PE X e (fun σ H Q => ∃ R : VK, te σ H R ∧ ∀ v H1, R v H1 → Q v H1) :=
  ⟨fun pins s σ H Q I ⟨R, a, b⟩ => wpAny_mono (h.run pins s σ H R I a) (fun u s1 ⟨v, H1, I1, r, q⟩ => ⟨v, H1, I1, r, b v H1 q⟩) fun _ _ z => z⟩
/-- all(x in y for x in e), y a text of the module -/
def tAllG (z : Str) (te : TE) : TE := fun σ H Q => te σ H fun v H1 => ∃ a : Str, v = .str a ∧ Good H1 ∧ ∀ H2, Lb.Same H1 H2 → Q (.bl (a.cps.toList.all fun c => decide (c ∈ z.cps.toList))) H2
/-- all(x in y for x in e), y a text in the i-th slot -/
def tAllV (i : Nat) (te : TE) : TE := fun σ H Q => te σ H fun v H1 => ∃ a z : Str, v = .str a ∧ σ[i]? = some (some (.str z)) ∧ Good H1 ∧ ∀ H2, Lb.Same H1 H2 → Q (.bl (a.cps.toList.all fun c => decide (c ∈ z.cps.toList))) H2
theorem pe_allG {c P : Addr} {iter : Expr} {x y : Str} {px p pos gpos p1 p2 p3 : Pos} {scope : Scope} {te : TE} {k : Nat} {z : Str} {tz : Tok}
    (hr : Room k X.A) (hm : X.mg "all" = none) (hmy : X.mg y = some (.str z tz)) (TB : LamX.TabB X.base X.mg c P) (hmem : (P, X.env.qual ++ "<genexpr>") ∈ Tabl.T) (hcode : X.env.code = .ref c) (B : GenB X.env.scope scope x) (hi : PE X iter te)
    (hg : Gl X "all" := by rfl) (hy : scope.names.lookup y = some .globalImplicit := by rfl) (hs : ∀ v, genFold iter X.env v = pure v := by intro _; rfl) (hd : (x == ("__debug__" : Str)) = false := by decide) (hd' : (y == ("__debug__" : Str)) = false := by decide)
    (he : starEach [.GeneratorExp (.Compare (.Name x p1) [.In] [.Name y p2] p3) [⟨.Name x px, iter, [], 0⟩] scope gpos] X.env = (false, eval (.GeneratorExp (.Compare (.Name x p1) [.In] [.Name y p2] p3) [⟨.Name x px, iter, [], 0⟩] scope gpos) X.env) :: starEach [] X.env := by rfl) :
    PE X (.Call (.Name "all" p) [.GeneratorExp (.Compare (.Name x p1) [.In] [.Name y p2] p3) [⟨.Name x px, iter, [], 0⟩] scope gpos] [] pos) (tAllG z te) := by
  refine ⟨fun pins s σ H Q I h => ?_⟩
  have S := B.S I.ok
  refine (pe_all (Cn := CnGl z) hr hg hm TB hmem hcode S (pe_weak hi) (fun pins σ H1 s1 pb I1 _ cn => elt_glob S hy hmy TB.gP I1 cn hd hd') hs (he := he)).run pins s σ H Q I ⟨_, h, fun v H1 q => ?_⟩
  obtain ⟨a, e1, e2, e3⟩ := q
  exact ⟨a, _, e1, e2, rfl, e3⟩
theorem pe_allV {c P : Addr} {iter : Expr} {x y : Str} {i : Nat} {px p pos gpos p1 p2 p3 : Pos} {scope : Scope} {te : TE} {k : Nat}
    (hr : Room k X.A) (hm : X.mg "all" = none) (hN : X.N[i]? = some y) (TB : LamX.TabB X.base X.mg c P) (hmem : (P, X.env.qual ++ "<genexpr>") ∈ Tabl.T) (hcode : X.env.code = .ref c) (B : GenB X.env.scope scope x) (hi : PE X iter te)
    (hv : X.env.scope.names.lookup y = some .cell := by rfl) (hg : Gl X "all" := by rfl) (hy : scope.names.lookup y = some .free := by rfl) (hmm : (y, NameKind.free) ∈ scope.names := by exact PySem.mem_of_lookup rfl) (hs : ∀ v, genFold iter X.env v = pure v := by intro _; rfl) (hd : (x == ("__debug__" : Str)) = false := by decide) (hd' : (y == ("__debug__" : Str)) = false := by decide) (hcd : (y == ("__classdict__" : Str)) = false := by decide)
    (he : starEach [.GeneratorExp (.Compare (.Name x p1) [.In] [.Name y p2] p3) [⟨.Name x px, iter, [], 0⟩] scope gpos] X.env = (false, eval (.GeneratorExp (.Compare (.Name x p1) [.In] [.Name y p2] p3) [⟨.Name x px, iter, [], 0⟩] scope gpos) X.env) :: starEach [] X.env := by rfl) :
    PE X (.Call (.Name "all" p) [.GeneratorExp (.Compare (.Name x p1) [.In] [.Name y p2] p3) [⟨.Name x px, iter, [], 0⟩] scope gpos] [] pos) (tAllV i te) := by
  refine ⟨fun pins s σ H Q I h => ?_⟩
  have S := B.S I.ok
  refine (pe_all (Cn := CnVar i) hr hg hm TB hmem hcode S (pe_weak hi) (fun pins σ H1 s1 pb I1 g cn => elt_var S hy hmm hN hv I1 (let ⟨ps, h1, h2, _⟩ := g _ hmem; ⟨ps, h1, h2⟩) cn hd hd' hcd) hs (he := he)).run pins s σ H Q I ⟨_, h, fun v H1 q => ?_⟩
  obtain ⟨a, z, e1, e0, e2, e3⟩ := q
  exact ⟨a, _, e1, e2, ⟨z, e0, rfl⟩, e3⟩
end
end GQ

namespace Lb
open PySem PySem.Spec PyProof.Rows L2
/-! ### the text's own errors -/
/-- a class of errors -/
structure ErrT (K : PySem.W.Frag) (mg : Str → Option Value) (x : Str) (C : Addr) : Prop where
  g : mg x = some (.ref C)
  o : OexC K C
  f : XfC K C
  i : ExcC K C
/-! what class is one of what class: from the classes' own rows -/
theorem cls_bit {K : PySem.W.Frag} {C : Addr} (h1 : PySem.W.isClsIn K C = true) (h2 : PySem.W.typeIn K (.ref C) = some (.type "type")) : ((PySem.W.clsIn K C).isSome && PySem.W.typeIn K (.ref C) == some (.type "type")) = true := by
  have h1' : (PySem.W.clsIn K C).isSome = true := h1
  rw [h1', h2] <;> rfl
theorem kitC {K : PySem.W.Frag} {t : Value} {C : Addr} {b : Bool} (h1 : PySem.W.isClsIn K C = true) (h2 : PySem.W.typeIn K (.ref C) = some (.type "type")) (h3 : PySem.W.subIn K t (.ref C) = some b) : PySem.W.kitCls K t (.ref C) = some b := by
  show (if ((PySem.W.clsIn K C).isSome && PySem.W.typeIn K (.ref C) == some (.type "type")) = true then PySem.W.subIn K t (.ref C) else none) = some b
  rw [if_pos (cls_bit h1 h2)]
  exact h3
theorem kitY {K : PySem.W.Frag} {t : Value} {C : Addr} (h1 : PySem.W.isClsIn K C = true) (h2 : PySem.W.typeIn K (.ref C) = some (.type "type")) (h3 : PySem.W.subIn K t (.ref C) = some true) : PySem.W.kitOne K t (.ref C) = some true := by
  unfold PySem.W.kitOne
  split
  · rfl
  · exact kitC h1 h2 h3
theorem kitN {K : PySem.W.Frag} {D C : Addr} (h1 : PySem.W.isClsIn K C = true) (h2 : PySem.W.typeIn K (.ref C) = some (.type "type")) (h3 : PySem.W.subIn K (.ref D) (.ref C) = some false) (h4 : PySem.W.subIn K (.ref C) (.ref C) = some true) :
    PySem.W.kitOne K (.ref D) (.ref C) = some false := by
  unfold PySem.W.kitOne
  split
  · rename_i e
    have e' := beq_iff_eq.mp e
    rw [e', h4] at h3
    cases h3
  · exact kitC h1 h2 h3
theorem kitB {K : PySem.W.Frag} {D : Addr} {T : String} {b : Bool} (hm : PySem.W.kitMeta T = true) (h : PySem.W.subIn K (.ref D) (.type T) = some b) : PySem.W.kitOne K (.ref D) (.type T) = some b := by
  unfold PySem.W.kitOne
  split
  · rename_i e
    cases beq_iff_eq.mp e
  · show (if PySem.W.kitMeta T = true then PySem.W.subIn K (.ref D) (.type T) else none) = some b
    rw [if_pos hm]
    exact h
theorem exmR {K : PySem.W.Frag} {D C : Addr} {b : Bool} (h0 : PySem.W.subIn K (.ref C) (.type "BaseException") = some true) (h1 : PySem.W.isClsIn K C = true) (h2 : PySem.W.typeIn K (.ref C) = some (.type "type")) (h3 : PySem.W.subIn K (.ref D) (.ref C) = some b) :
    PySem.W.exmOne K (.ref D) (.ref C) = some b := by
  have e1 : (PySem.W.subIn K (.ref C) (.type "BaseException") == some true) = true := by rw [h0] <;> rfl
  show (if (PySem.W.subIn K (.ref C) (.type "BaseException") == some true) = true then PySem.W.kitCls K (.ref D) (.ref C) else none) = some b
  rw [if_pos e1]
  exact kitC h1 h2 h3
/-- the j-th row of a class -/
def inCls (s : Stmt) (j : Nat) : Stmt := match s with
  | .ClassDef _ _ _ b _ _ _ _ _ _ _ => b.getD j (.Pass ⟨0, 0, 0, 0⟩)
  | _ => .Pass ⟨0, 0, 0, 0⟩
/-- isinstance(e, c), e the error that the suite holds, whatever its class -/
def rIsD (K : PySem.W.Frag) (a : Addr) (cls : Value) (d : Option Addr) : List V → Hp → VK → Prop := fun xs H Q =>
  ∃ (D : Addr) (c : V) (cv : Value) (b : Bool), cls = .ref D ∧ ExcC K D ∧ xs = [.ref a, c] ∧ (∀ u, RelV c u → u = cv) ∧ (∀ dd, d = some dd → ∃ fs, H dd = some (.xd fs)) ∧ PySem.W.kitOne K (.ref D) cv = some b ∧ Q (.bl b) H
theorem call_isD {X : Cx} {a : Addr} {cls : Value} {d : Option Addr} {oe : Obj} {pn : List (Addr × Obj)} (hz : Zc cls d oe) (hf : ∃ vs, oe.data = .fields vs) : CallR (X.suite a ((a, oe) :: pn)) (.builtin "isinstance") (rIsD X.K a cls d) := by
  intro pins s σ H xs us Q I r h
  obtain ⟨D, c, cv, b, rfl, C, rfl, same, dict, e, q⟩ := h
  obtain ⟨u1, u2, rfl, r1, r2⟩ := vals2 r
  cases r1
  cases same _ r2
  obtain ⟨at_, _⟩ := I.pin (a, oe) (List.mem_append_left _ List.mem_cons_self)
  obtain ⟨vs, data⟩ := hf
  obtain ⟨od, J⟩ : ∃ od, PySem.W.InstAt s.heap a oe D od := by
    have no : PySem.W.notCls oe = true := by
      unfold PySem.W.notCls
      rw [data] <;> rfl
    cases d with
    | none => exact ⟨none, at_, hz.1, no, by rw [hz.2]; trivial⟩
    | some dd =>
      obtain ⟨fs, hd⟩ := dict dd rfl
      obtain ⟨mA, ns, _⟩ := (show ObjOk X.prog X.w H s.heap dd (.xd fs) from I.hok dd _ hd)
      obtain ⟨od, ho, _⟩ := lookIn_ns ns
      exact ⟨some od, at_, hz.1, no, by rw [hz.2]; exact ho⟩
  have some_ : (PySem.W.clsIn X.K D).isSome = true := by
    obtain ⟨cd, hc, _⟩ := PySem.W.any_some C.hd
    rw [hc]
    rfl
  exact PySem.W.kia_one (PySem.W.kitx_exc some_ C.hg C.hk C.hs C.ha C.hn C.ht C.hm) I.kIn J e (fun z => nomatch z) fun tk => ⟨.bl b, H, I.kept (t' := tk) fun _ _ z => z, rfl, q⟩
/-! ### a class with an own __init__(self, f): self.f = f -/
def sp_init1 (K : PySem.W.Frag) (f : Str) : Sp := fun vs H Q _ => ∃ (a C : Addr) (v : V), vs = [.ref a, v] ∧ OexC K C ∧ PySem.W.findIn K (.ref C) f = some none ∧ H a = some (exo a C none) ∧
  ∀ dx, H dx = none → dx ≠ a → Q .non (upd (upd H dx (exd dx [(f, v)])) a (exo a C (some dx)))
theorem pa_weak {X : Cx} {es : List Expr} {t : TA} (h : PA X es t) : PA X es (fun σ H Q => ∃ R : List V → Hp → Prop, t σ H R ∧ ∀ vs H1, R vs H1 → Q vs H1) :=
  ⟨fun pos pins s σ H Q I ⟨R, a, b⟩ => wpAny_mono (h.run pos pins s σ H R I a) (fun u s1 ⟨v, H1, I1, r, q⟩ => ⟨v, H1, I1, r, b v H1 q⟩) fun _ _ z => z⟩
/-- C(e): a new error, its field f -/
def tErr1 (C : Addr) (f : Str) (ta : TA) : L2.St → Hp → XK → Prop := fun σ H Q => ta σ H fun vs H1 => ∃ v, vs = [v] ∧ ∀ d, H1 d = none → Q (.ref C) (some d) (upd H1 d (.xd [(f, v)]))
theorem pmk_err1 {X : Cx} {CX : CXT} {e : Expr} {ta : TA} {x f : Str} {C fI : Addr} {k : Nat} {fd : FuncData} {ps : List Str} {p pos : Pos} (E : ErrT X.K X.mg x C) (iC : PySem.W.findIn X.K (.ref C) "__init__" = some (some (.ref fI))) (tI : PySem.W.typeIn X.K (.ref fI) = some (.type "function"))
    (hno : PySem.W.findIn X.K (.ref C) f = some none) (F1 : FnOk X.prog X.w X.K X.mg X.base CX k fI fd ps (sp_init1 X.K f)) (hr : Room (k + 1) X.A) (hb : Binds X.K fd ps []) (hx : Passes CX X (fun _ _ _ => False)) (ha : PA X [e] ta) (hg : Gl X x := by rfl)
    (hdb : (x == ("__debug__" : Str)) = false := by decide) (he : starEach [e] X.env = (false, eval e X.env) :: starEach [] X.env := by rfl) (hpl : (backTo pos (starEach [] X.env)).any (·.1) = false := by rfl) :
    PMk X (.Call (.Name x p) [e] [] pos) (tErr1 C f ta) := by
  intro pins s σ H Q I h
  refine pmk_oex (dvs := []) E.o iC tI F1 hr hb .nil hx hg E.g (pa_weak ha) hdb he hpl pins s σ H Q I ⟨_, h, fun vs H1 z => ?_⟩
  obtain ⟨v, rfl, q⟩ := z
  refine ⟨by show 1 ≤ 1000; decide, fun a na => ⟨a, C, v, rfl, E.o, hno, upd_same, fun dx nd ne => ?_⟩⟩
  have nd1 : H1 dx = none := by
    rw [upd_ne ne] at nd
    exact nd
  refine ⟨rfl, dx, [(f, v)], upd_same, by rw [upd_ne ne, upd_same], nd1, ?_⟩
  have e : upd (del (upd (upd (upd H1 a (exo a C none)) dx (exd dx [(f, v)])) a (exo a C (some dx))) a) dx (.xd [(f, v)]) = upd H1 dx (.xd [(f, v)]) := by
    funext b
    by_cases b1 : b = dx
    · rw [b1, upd_same, upd_same]
    · rw [upd_ne b1, upd_ne b1]
      by_cases b2 : b = a
      · rw [b2, del_same, na]
      · rw [del_ne b2, upd_ne b2, upd_ne b1, upd_ne b2]
  rw [e]
  exact q dx nd1
/-- __init__(self, f): self.f = f -/
theorem ok_init1 {P : Program} {w : World} {K : PySem.W.Frag} {mg : Str → Option Value} {base : Heap} {x qual f : Str} {st : Stmt} {fI : Addr} {fd : FuncData} {p0 p1 p2 p3 p4 : Pos} {k : Nat} (F : Fun K x qual st fI fd) (S : FnScope ["self", f] ["self", f] (defScope st)) (hf : f ≠ "self")
    (body : defBody st = [.Assign [.Attribute (.Name "self" p0) f p1] (.Name f p2) p3]) (v0 : Vis (defScope st) "self" := by exact Or.inl rfl) (v1 : Vis (defScope st) f := by exact Or.inl rfl) (d1 : (f == ("__debug__" : Str)) = false := by decide) (d2 : (f == ("__classdict__" : Str)) = false := by decide) :
    FnOk P w K mg base CX0 (k + 1) fI fd ["self", f] (sp_init1 K f) := by
  refine F.ok S (fun vs H Q E h => ?_) (fun cdv A outer s H vs Q E hr h => ?_)
  · obtain ⟨a, C, v, rfl, _⟩ := h
    rfl
  · obtain ⟨a, C, v, rfl, T, no, e, q⟩ := h
    rw [body]
    exact ⟨_, pss_one (ps_ost (pv 0 rfl v0) (pv 1 rfl v1 d1 d2)), v, rfl, .ref a, rfl, a, C, rfl, T, no, .inl ⟨e, fun dx n ne => q dx n ne⟩⟩
end Lb

namespace Lb
open PySem PySem.Spec PyProof.Rows L2
/-! ### a lambda made and handed to a def of the text -/
section
variable [Tabl] {X : Cx} {pins : List (Addr × Obj)} {σ : L2.St} {H : Hp} {s : Shared}
abbrev qLam (X : Cx) : Str := X.env.qual ++ "<lambda>"
abbrev lamO (X : Cx) (params : Arguments) (body : Expr) (scope : Scope) (pm : Value) (c : Addr) (ct : Value) : Obj := PySem.W.kla_obj "<lambda>" (qLam X) params body scope (cloFrom X.env.cells scope.names []) pm c ct
theorem lam_made {c P : Addr} {params : Arguments} {body : Expr} {scope : Scope} {pos : Pos} {E Q : Value → Shared → Prop} (I : Inv X pins σ H s) (TB : LamX.TabB X.base X.mg c P) (code : X.env.code = .ref c) (mem : (P, qLam X) ∈ Tabl.T) (good : Good H) (L : LamX.LamS X.env.scope scope) (plain : defaultsOf params X.env = ([], []))
    (h : ∀ (f c' : Addr) (pm ct : Value) (H1 : Hp) (s1 : Shared), Inv X pins σ H1 s1 → Same H H1 → s1.heap.get? f = some (lamO X params body scope pm c' ct) → H1 f = none → f ∉ frs X.stack → H1 c' = some (LamX.CodeO c' (qLam X)) → Q (.ref f) s1) :
    wpAny (model X.prog X.w) X.A (eval (.Lambda params body scope pos) X.env) Q E s := by
  obtain ⟨ps, tab, tri, bears⟩ := good _ mem
  have free := L.has I.ok
  have tab' : s.heap.get? P = some { cls := .none, data := .fields ps } := I.hok P _ tab
  have far : ∀ f, s.heap.objs.size ≤ f → f ∉ frs X.stack := fun f l m => by
    rcases List.mem_cons.mp (I.stkSub _ m) with e | e
    · have low := I.lt
      rw [← e] at low
      exact absurd (Nat.lt_of_lt_of_le low l) (Nat.lt_irrefl _)
    · exact I.nofs l e
  refine PySem.W.kla_eval plain ?_
  cases hit : codeAmong pos ps.toList with
  | some cv =>
    obtain ⟨c', rfl, is⟩ := bears pos cv hit
    refine PySem.W.kla_makeFunctionHit (mg := X.mg) (c := c) (P := P) (ps := ps) (closure_ok free) I.ok.glob (I.mod.glob.keeps I.bk) code (TB.code.keeps I.bk) tab' tri hit (TB.bm.keeps I.bk) fun ct h1 tk keep size => ?_
    exact h h1.objs.size c' _ ct H _ (I.kept fun b o e => Heap.get?_push_of_some _ (keep b o e)) (.refl H) (Heap.get?_push_size _ rfl) (I.hok.fresh size) (far _ size) is
  | none =>
    refine PySem.W.kla_makeFunction (mg := X.mg) (c := c) (P := P) (ps := ps) (closure_ok free) I.ok.glob (I.mod.glob.keeps I.bk) code (TB.code.keeps I.bk) tab' tri hit TB.gP (TB.bm.keeps I.bk) fun c' ct h1 tk keep above below rec_ grown => ?_
    obtain ⟨c2, oc, vs, t, ec, o1, o2, o3⟩ := rec_
    cases ec
    have new : H c' = none := I.hok.fresh above
    have size : s.heap.objs.size ≤ h1.objs.size := by omega
    refine h h1.objs.size c' _ ct _ _ (LamX.inv_table (t' := tk) I tab (fun b o n e => Heap.get?_push_of_some _ (keep b o n e)) (Heap.get?_push_of_some _ grown) above ⟨oc, vs, t, Heap.get?_push_of_some _ o1, o2, o3⟩) (same_code tab tri bears new mem) (Heap.get?_push_size _ rfl) ?_ (far _ size) upd_same
    have lp := Heap.lt_size tab'
    rw [upd_ne (Nat.ne_of_gt below), upd_ne (Nat.ne_of_gt (Nat.lt_of_lt_of_le lp size))]
    exact I.hok.fresh size
end
end Lb

namespace Lb
open PySem PySem.Spec PyProof.Rows L2
/-! ### a lambda called in a suite: what it lets out is told of the slots there -/
section
variable {X : Cx} {pins : List (Addr × Obj)} {σ : L2.St} {H : Hp} {s : Shared}
theorem pe_actS {CXg : CXT} {Eg : XK} {Ng : List Str} {qg : Str} {sg : Scope} {g f c : Addr} {cdg pm ct : Value} {params : Arguments} {body : Expr} {scope : Scope} {k i : Nat} {a : Str} {pn : List (Addr × Obj)} {xe : Value → Shared → Prop} {W : WX} {t : XK → TE} {p1 p2 : Pos} (I : Inv X pins σ H s) (L : LamX.LamS X.env.scope scope)
    (at_ : s.heap.get? f = some (lamO X params body scope pm c ct)) (nf : H f = none) (far : f ∉ frs X.stack) (none_ : bindArgs (PySem.W.kla_fn "<lambda>" (qLam X) params body scope (cloFrom X.env.cells scope.names []) pm (.ref c) ct) ⟨[], []⟩ = pure [])
    (tk : Takes ((cxOf CXg X.prog X.w X.K X.mg X.base Ng qg sg g cdg X.A X.stack s H Eg).tr pn xe) W) (room : Room (k + 1) (X.A.deeper (envOfC qg sg s.heap.objs.size g cdg))) (inside : ∀ (A : Around) (outer : List Env) (s : Shared) (H : Hp) (E : XK), Room k (A.deeper (LamX.lamEnv X scope s.heap.objs.size f c)) → PE (LamX.lamCx X A outer s H E scope f c) body (t E))
    (hN : Ng[i]? = some a) (hv : Vis sg a) (d1 : (a == ("__debug__" : Str)) = false := by decide) (d2 : (a == ("__classdict__" : Str)) = false := by decide) : PE ((cxOf CXg X.prog X.w X.K X.mg X.base Ng qg sg g cdg X.A X.stack s H Eg).tr pn xe) (.Call (.Name a p1) [] [] p2)
      (fun σZ HZ Q => ∃ E0 : XK, (∀ cls d H', E0 cls d H' → W cls d σZ H') ∧ σZ[i]? = some (some (.ref f)) ∧ HZ c = some (LamX.CodeO c (qLam X)) ∧ t E0 σ HZ Q) := by
  refine ⟨fun pinsZ sZ σZ HZ Q IZ ⟨E0, incl, slot, is, reads⟩ => wpAny_Call_Name_kw (thn ((pe_var (pos := p1) (i := i) hN hv d1 d2).run pinsZ sZ σZ HZ (fun v G => v = .ref f ∧ G = HZ) IZ ⟨.ref f, slot, rfl, rfl⟩) ?_)⟩
  rintro u s1 ⟨v, G, I1, rel, rfl, rfl⟩
  cases (show u = Value.ref f from rel)
  have un : Un (frs X.stack) [] H G s.heap s1.heap := I1.base
  have there : s1.heap.get? f = some (lamO X params body scope pm c ct) := un.keep f _ at_ nf far (fun m => absurd (show f ∈ ([] : List Addr) from m) List.not_mem_nil)
  obtain ⟨⟨oc, vs, tq, o1, o2, o3⟩, _, _⟩ := I1.hok c _ is
  refine PySem.W.callWith_F0 ⟨_, _, _, _, there⟩ (wpAny_call (codeAny_mono (R := CR (L2.CX X.prog X.w) (envOfC qg sg s.heap.objs.size g cdg :: X.stack) X.prog X.w G s1 Q E0) ?_ fun r s2 q => ?_))
  · refine PySem.W.kla_callFunE room.depth there rfl L.co L.gen rfl ⟨c, oc, vs, tq, rfl, o1, o2, o3⟩ ?_
    refine wpAny_of_eq none_ (wpAny_newFunctionEnv (fun y hy => (L.own y hy).2) (fun y hy => absurd hy List.not_mem_nil) (fun h1 ns sub => ⟨I1.nolimit.fresh _ sub, ?_⟩) L.kind)
    have keep : ∀ b o, s1.heap.get? b = some o → h1.get? b = some o := fun b o e => sub.extBut b o (Nat.ne_of_lt (Heap.lt_size e)) (Heap.get?_push_of_some _ e)
    have J := LamX.lam_start2 (A := X.A.deeper (envOfC qg sg s.heap.objs.size g cdg)) (outer := envOfC qg sg s.heap.objs.size g cdg :: X.stack) (E := E0) (f := f) (c' := c) (tk := s1.toks) I L I1.env0 room.hd un ns keep
    show codeAny _ _ (.expr body (LamX.lamEnv X scope s1.heap.objs.size f c)) _ _
    refine PySem.W.kla_codeExpr (wpAny_mono ((inside _ _ s1 G E0 (room.deeper _)).run [] _ _ G Q J reads) ?_ fun e s2 q => q)
    rintro u s2 ⟨v, G2, J2, rv, q⟩
    exact ⟨v, G2, J2.os, J2.bare, J2.base, J2.hok, rv, q⟩
  · cases r with
    | error e => exact tk e s2 (XE.of_call I1 (fun cls d H' z => incl cls d H' z) q)
    | ok fl =>
      cases fl with
      | ret u => exact I1.after q
      | next => exact absurd q id
      | brk => exact absurd q id
      | cont => exact absurd q id
/-- the def that calls what it got: TT, what it makes of the lambda's reading -/
def ActGives (X : Cx) (Ng : List Str) (x : Str) (sg : Scope) (g : Addr) (cdg : Value) (bg : List Stmt) (a : Str) (q : Str) (TT : (XK → Hp → VK → Prop) → Hp → VK → Prop) : Prop :=
  ∀ (f c : Addr) (s : Shared) (H : Hp) (Q : VK) (tl : XK → Hp → VK → Prop), (∀ (W : WX) (pn : List (Addr × Obj)) (xe : Value → Shared → Prop) (p1 p2 : Pos), Takes ((cxOf C8.CX0 X.prog X.w X.K X.mg X.base Ng x sg g cdg X.A X.stack s H C8.E0).tr pn xe) W →
      PE ((cxOf C8.CX0 X.prog X.w X.K X.mg X.base Ng x sg g cdg X.A X.stack s H C8.E0).tr pn xe) (.Call (.Name a p1) [] [] p2) (fun σZ HZ Q => ∃ E0 : XK, (∀ cls d H', E0 cls d H' → W cls d σZ H') ∧ σZ[0]? = some (some (.ref f)) ∧ HZ c = some (LamX.CodeO c q) ∧ tl E0 HZ Q)) → H c = some (LamX.CodeO c q) → TT tl H Q →
    ∃ t, PSs (cxOf C8.CX0 X.prog X.w X.K X.mg X.base Ng x sg g cdg X.A X.stack s H C8.E0).nox bg t ∧ t { nx := fun _ H' => Q .non H', rt := Q } (L2.start Ng [.ref f]) H
end
/-- action() in a suite -/
def tbAct (f c : Addr) (q : Str) (tl : XK → Hp → VK → Prop) (W : WX) : TS := fun D σ H => ∃ E0 : XK, (∀ cls d H', E0 cls d H' → W cls d σ H') ∧ σ[0]? = some (some (.ref f)) ∧ H c = some (LamX.CodeO c q) ∧ tl E0 H (fun _ H1 => D.nx σ H1)
theorem body_act {X : Cx} {a q : Str} {f c : Addr} {tl : XK → Hp → VK → Prop} {W : WX} {pn : List (Addr × Obj)} {xe : Value → Shared → Prop} {p1 p2 p3 : Pos} (act : ∀ (W : WX) (pn : List (Addr × Obj)) (xe : Value → Shared → Prop) (p1 p2 : Pos), Takes (X.tr pn xe) W →
      PE (X.tr pn xe) (.Call (.Name a p1) [] [] p2) (fun σZ HZ Q => ∃ E0 : XK, (∀ cls d H', E0 cls d H' → W cls d σZ H') ∧ σZ[0]? = some (some (.ref f)) ∧ HZ c = some (LamX.CodeO c q) ∧ tl E0 HZ Q)) (tk : Takes (X.tr pn xe) W) : PSs (X.tr pn xe) [.Expr (.Call (.Name a p1) [] [] p2) p3] (tbAct f c q tl W) := by
  refine ⟨fun pins s σ H D I h => ?_⟩
  exact (pss_one (ps_expr (pos := p3) (act W pn xe p1 p2 tk))).run pins s σ H D I h
/-- a suite, its reading found when its error is known -/
def tSuite (X : Cx) (suite : List Stmt) (a : Addr) (cls : Value) (d : Option Addr) : TS := fun D σ H => ∀ (oe : Obj) (pn : List (Addr × Obj)), Zc cls d oe → (∃ vs, oe.data = .fields vs) → ∃ t : TS, PSs (X.suite a ((a, oe) :: pn)) suite t ∧ t D σ H
theorem suite_any {X : Cx} {suite : List Stmt} {a : Addr} {cls : Value} {d : Option Addr} {oe : Obj} {pn : List (Addr × Obj)} (hz : Zc cls d oe) (hf : ∃ vs, oe.data = .fields vs) : PSs (X.suite a ((a, oe) :: pn)) suite (tSuite X suite a cls d) :=
  ⟨fun pins s σ H D I h => let ⟨_, p, k⟩ := h oe pn hz hf; p.run pins s σ H D I k⟩
section
variable [Tabl] {X : Cx}
/-- TT: what the def makes of the lambda's reading; the reading itself at the heap behind the making -/
def tLamS (TT : (XK → Hp → VK → Prop) → Hp → VK → Prop) (t : XK → TE) : TE := fun σ H Q => Good H ∧ ∀ H1, Same H H1 → TT (fun E H' Q' => t E σ H' Q') H1 Q
/-- x(lambda: body), x a def of one parameter -/
theorem pe_lam {TT : (XK → Hp → VK → Prop) → Hp → VK → Prop} {x a : Str} {g c P : Addr} {k : Nat} {st : Stmt} {fd : FuncData} {Ng : List Str} {params : Arguments} {body : Expr} {scope : Scope} {t : XK → TE} {p lpos pos : Pos} (F : Fun X.K x x st g fd) (hb : Binds X.K fd [a] []) (Sg : FnScope Ng [a] (defScope st))
    (hG : ∀ cdg, ActGives X Ng x (defScope st) g cdg (defBody st) a (qLam X) TT) (TB : LamX.TabB X.base X.mg c P) (mem : (P, qLam X) ∈ Tabl.T) (code : X.env.code = .ref c) (hr : Room (k + 2) X.A) (L : LamX.LamS X.env.scope scope) (hm : X.mg x = some (.ref g))
    (hbody : ∀ (A : Around) (outer : List Env) (s : Shared) (H : Hp) (E : XK) (f c' : Addr), Room k (A.deeper (LamX.lamEnv X scope s.heap.objs.size f c')) → PE (LamX.lamCx X A outer s H E scope f c') body (t E)) (hN : Ng[0]? = some a := by rfl) (hv : Vis (defScope st) a := by first | exact Or.inl rfl | exact Or.inr (Or.inl rfl))
    (hg : Gl X x := by rfl) (plain : defaultsOf params X.env = ([], []) := by rfl) (hbind : ∀ (q : Str) (cl : List (Str × Addr)) (pm cv ctv : Value), bindArgs (PySem.W.kla_fn "<lambda>" q params body scope cl pm cv ctv) ⟨[], []⟩ = pure [] := by intros; rfl)
    (d1 : (x == ("__debug__" : Str)) = false := by decide) (d2 : (a == ("__debug__" : Str)) = false := by decide) (d3 : (a == ("__classdict__" : Str)) = false := by decide) :
    PE X (.Call (.Name x p) [.Lambda params body scope lpos] [] pos) (tLamS TT t) := by
  obtain ⟨oc, od, kV, doc, pm, an, cdv, ct, osl, rfl, lk, cd⟩ := F.ex
  refine ⟨fun pins s σ H Q I ⟨good, h⟩ => ?_⟩
  refine wpAny_Call_Name_kw (ld_glob I hg hm (PySem.W.callWith_K (h₀ := X.base) I.ok.mod.kin F.kp ?_ (by rfl) (by rfl)) d1)
  show wpAny _ _ (spliced ((false, eval (.Lambda params body scope lpos) X.env) :: backTo pos (starEach [] X.env))) _ _ s
  refine Calls.spliced_cons (lam_made I TB code mem good L plain fun f c' pm1 ct1 H1 s1 I1 sm at_ nf far is => Calls.spliced_nil ⟨I1.kIn, ?_⟩)
  refine wpAny_call (codeAny_mono (LamX.run_ofS (CX := C8.CX0) (Q := Q) (E := C8.E0) (N := Ng) (ps := [a]) (us := [.ref f]) (vs := [.ref f]) lk cd Sg hr I1.env0 (hb s1 [.ref f] I1.kIn rfl) (.cons rfl .nil) rfl fun hr1 => ?_) fun r s2 q => ?_)
  · obtain ⟨t1, h1, h2⟩ := hG cdv f c' s1 H1 Q (fun E H' Q' => t E σ H' Q') (fun W pn xe p1 p2 tk => pe_actS (i := 0) (t := t) I1 L at_ nf far (hbind _ _ _ _ _) tk hr1 (fun A outer s H E hr2 => hbody A outer s H E f c' hr2) hN hv d2 d3) is (h H1 sm)
    exact ⟨t1, h1.nox, h2⟩
  · cases r with
    | error e => exact absurd q id
    | ok fl =>
      cases fl with
      | ret u => exact I1.after q
      | next => exact absurd q id
      | brk => exact absurd q id
      | cont => exact absurd q id
end
end Lb

namespace SetQ
open PySem PySem.Spec PyProof.Rows L2 PySem.Froz
open Sem (wp)
/-! ### sorted(set(a)) of an ascending text a -/
theorem tail_ris (ep : Nat) (es1 : Array (Int × Value)) (t2 : SetTable) (wd : Bool) (r : Ris t2.place.toList) : Ris (tailTx ep es1 t2 wd).2.2.place.toList ∧ (tailTx ep es1 t2 wd).2.2.led = t2.led := by
  unfold tailTx
  split
  · exact ⟨relayAll_ris _ _ _, relayAll_led _ _ _⟩
  · exact ⟨r, rfl⟩
theorem addTx_ris (h : Int) (v : Value) (D : SD) (r : Ris D.2.2.place.toList) : Ris (addTx h v D).2.2.place.toList ∧ (addTx h v D).2.2.led = D.2.2.led := by
  have r1 := layNew_ris D.2.2 D.1 h v r
  have l1 := layNew_led D.2.2 D.1 h v
  have mid : ∀ t : SetTable, t = (if (layNew D.2.2 D.1 h v).2.1.plain = true then { (layNew D.2.2 D.1 h v).2.1 with plain := false } else (layNew D.2.2 D.1 h v).2.1) → Ris t.place.toList ∧ t.led = D.2.2.led := by
    intro t e
    rw [e]
    split
    · exact ⟨r1, l1⟩
    · exact ⟨r1, l1⟩
  have m := mid _ rfl
  have q := tail_ris D.2.1 (layNew D.2.2 D.1 h v).1 _ (layNew D.2.2 D.1 h v).2.2.1 m.1
  exact ⟨q.1, q.2.trans m.2⟩
theorem runD_ris (w : World) : ∀ (l : List Nat) (tk : Tok) (D : SD), Ris D.2.2.place.toList → Ris (runD w l tk D).2.2.place.toList ∧ (runD w l tk D).2.2.led = D.2.2.led
  | [], _, _, r => ⟨r, rfl⟩
  | c :: l, tk, D, r => by
    have s := addTx_ris (hashStr w (sing c)) (.str (sing c) tk) D r
    have i := runD_ris w l (tk + 2) _ s.1
    exact ⟨i.1, i.2.trans s.2⟩
theorem runD_ok {P : Program} {w : World} : ∀ (l : List Nat) (tk : Tok) (D : SD) (m : List Str), TxOk P w D m → (∀ c ∈ l, sing c ∉ m) → l.Nodup → TxOk P w (runD w l tk D) (l.reverse.map sing ++ m)
  | [], _, _, _, F, _, _ => F
  | c :: l, tk, D, m, F, hn, nd => by
    obtain ⟨n1, n2⟩ := List.nodup_cons.mp nd
    have i := runD_ok l (tk + 2) _ (sing c :: m) (add_ok tk F) (fun d hd hm => ?_) n2
    · rw [List.reverse_cons, List.map_append, List.append_assoc]
      exact i
    · rcases List.mem_cons.mp hm with q | q
      · have e : [d] = [c] := congrArg (fun y : Str => y.cps.toList) q
        rw [(List.cons.inj e).1] at hd
        exact n1 hd
      · exact hn d (List.mem_cons_of_mem _ hd) q
section
variable {P : Program} {w : World} {A : Around} {E : Value → Shared → Prop} {s : Shared}
def freshT (w : World) : SetTable := .fresh 0 0 (!w.params.followText "set-order")
def setObj0 (w : World) : Obj := { cls := .type "set", dict := none, data := .set #[] 0 (freshT w) }
theorem new_set1 (a : Value) {Q₁ : Value → Shared → Prop} (h : Q₁ (.ref s.heap.objs.size) { s with heap := s.heap.push (setObj0 w) }) :
    codeAny (model P w) A (.call (.builtin "set.__new__") ⟨[.type "set", a], []⟩) (wants Q₁ E) s := by
  refine codeAny_of_tree ?_
  show wpAny _ A.in1 (do checkBuiltinCall "set.__new__" ⟨[.type "set", a], []⟩; again (.builtin "set.__new__" ⟨[.type "set", a], []⟩)) _ _ s
  refine wpAny_bind (wpAny_of_eq (F.newCall_set_1 a) (wpAny_pure ⟨plainId_quiet F.plain_set_new _, codeAny_builtin F.entry_set_new ?_⟩))
  rw [Around.under_plainId F.plain_set_new _]
  unfold Builtin.«set.__new__» Builtin.Frozenset.newClass
  have isS := sub_set_self
  obtain ⟨hp, g, d, tk, os⟩ := s
  dsimp only
  wp_walk
  refine wpAny_askSetting (wpAny_pure ?_)
  dsimp only
  simp only [newObj]
  exact wpAny_bind (wpAny_alloc (wpAny_pure (wpAny_pure h)))
set_option maxHeartbeats 3200000 in
/-- set(x), x a text of unlike ascii signs: its payload; what stood stands -/
theorem call_setT {x : Str} {u : Tok} {Q : Value → Shared → Prop} (hh : A.handled = none) (asc : x.cps.all (· < 128) = true) (nd : x.cps.toList.Nodup) (hb : x.cps.toList.length < scanBound)
    (h : ∀ (h' : Heap) (tk : Nat) (D : SD), h'.get? s.heap.objs.size = some (sObj "set" D) → TxOk P w D (x.cps.toList.reverse.map sing) → Ris D.2.2.place.toList → D.2.2.led = (!w.params.followText "set-order") →
      (∀ b o, s.heap.get? b = some o → h'.get? b = some o) → Q (.ref s.heap.objs.size) { s with heap := h', toks := tk }) :
    wpAny (model P w) A (call (.type "set") [.str x u]) Q E s := by
  obtain ⟨c, tl, hmro⟩ := F.called_set.mro
  have hmade := F.called_set.made
  have hsub := F.called_set.sub
  refine wpAny_call (codeAny_of_tree ?_)
  show wpAny _ _ (callAny (.type "set") _) _ _ _
  refine wpAny_pure ⟨Code.quiet_builtin _ (by decide +kernel), codeAny_builtin F.entry_type_call ?_⟩
  rw [Around.under_plain (weight_type_call_type "set" [.str x u] []) rfl]
  have n1 := F.called_set.notType
  have n2 := F.called_set.canCreate
  have n3 := F.typeCall_set_1 (.str x u)
  repeat (any_goals (first | assumption | wp_step))
  refine codeAny_mono (new_set1 (.str x u) (E := E) (Q₁ := fun obj s₁ => obj = .ref s.heap.objs.size ∧ s₁ = { s with heap := s.heap.push (setObj0 w) }) ⟨rfl, rfl⟩) fun r s₁ hr => ?_
  cases r with
  | error e => exact hr
  | ok fl =>
    cases fl with
    | ret obj =>
      obtain ⟨rfl, rfl⟩ := hr
      have at0 : (s.heap.push (setObj0 w)).get? s.heap.objs.size = some (setObj0 w) := Heap.get?_push_size _ rfl
      have ty0 : Shared.TypeIs { s with heap := s.heap.push (setObj0 w) } (.ref s.heap.objs.size) "set" := ⟨_, at0, rfl⟩
      have hli := F.called_set.init.lookup
      have hbi := F.called_set.init.bind (.ref s.heap.objs.size)
      repeat (any_goals (first | assumption | wp_step))
      refine codeAny_mono (codeAny_call_builtin (R := wants (fun r s₂ => r = .none ∧ ∃ h' tk D, s₂ = { s with heap := h', toks := tk } ∧ h'.get? s.heap.objs.size = some (sObj "set" D) ∧ TxOk P w D (x.cps.toList.reverse.map sing) ∧ Ris D.2.2.place.toList ∧
          D.2.2.led = (!w.params.followText "set-order") ∧ ∀ b o, s.heap.get? b = some o → h'.get? b = some o) E) F.called_set.init.plain F.entry_set_init (check_set_init_1 ty0 ?_)) fun r₂ s₂ hr₂ => ?_
      · have z1 := F.sub_str_set
        have z2 := F.sub_str_frozenset
        have z3 : (Value.type "str" == Value.type "dict") = false := by decide
        unfold Builtin.«set.__init__» noKeywords Builtin.Frozenset.updateFrom
        generalize hPI : pyIter = PI
        wp_walk
        subst hPI
        refine wpAny_pyIter_ascii asc ?_
        refine wpAny_bind (wpAny_runValue ?_)
        have lt0 : s.heap.objs.size < (s.heap.push (setObj0 w)).objs.size := by
          rw [Heap.size_push]
          exact Nat.lt_succ_self _
        have ne0 : s.heap.objs.size ≠ (s.heap.push (setObj0 w)).objs.size := Nat.ne_of_lt lt0
        have hA : A.in1.in1.handled = none := hh
        refine code_update (P := P) (a := s.heap.objs.size) (it := (s.heap.push (setObj0 w)).objs.size) ne0 (T := "set") (x := x) (u := u) hA x.cps.toList 0 (#[], 0, freshT w) [] _ rfl ?_ ?_ (TxOk.nil (by rfl)) (fun c _ m => absurd m List.not_mem_nil) nd ?_ ?_
        · exact Heap.get?_push_of_some _ at0
        · exact Heap.get?_push_size _ rfl
        · show 0 + x.cps.toList.length < scanBound
          omega
        · have ris0 : Ris (freshT w).place.toList := List.Pairwise.nil
          have rr := runD_ris w x.cps.toList s.toks (#[], 0, freshT w) ris0
          have ok := runD_ok (P := P) (w := w) x.cps.toList s.toks (#[], 0, freshT w) [] (TxOk.nil (by rfl)) (fun c _ m => absurd m List.not_mem_nil) nd
          rw [List.append_nil] at ok
          generalize runD w x.cps.toList s.toks (#[], 0, freshT w) = D at *
          show wpAny _ _ _ _ _ _
          refine wpAny_pure ?_
          show wpAny _ _ (ret Value.none) _ _ _
          refine wpAny_pure ⟨rfl, _, _, D, rfl, ?_, ok, rr.1, rr.2, fun b o e => ?_⟩
          · refine Heap.get?_push_of_some _ (Heap.get?_push_of_some _ ?_)
            refine PySem.Heap.get?_update_of_ne _ (Ne.symm ne0) ?_
            exact get_upd _ (Heap.get?_push_of_some _ at0) rfl
          · have lb : b < s.heap.objs.size := Heap.lt_size e
            refine Heap.get?_push_of_some _ (Heap.get?_push_of_some _ ?_)
            refine PySem.Heap.get?_update_of_ne _ (Nat.ne_of_gt (Nat.lt_trans lb lt0)) ?_
            refine PySem.Heap.get?_update_of_ne _ (Nat.ne_of_gt lb) ?_
            exact Heap.get?_push_of_some _ (Heap.get?_push_of_some _ e)
      · cases r₂ with
        | error e => exact hr₂
        | ok fl₂ =>
          cases fl₂ with
          | ret r =>
            obtain ⟨rfl, h', tk, D, rfl, g1, g2, g3, g4, g5⟩ := hr₂
            repeat (any_goals (first | assumption | wp_step))
            exact h _ _ D g1 g2 g3 g4 g5
          | _ => exact hr₂.elim
    | _ => exact hr.elim
end
end SetQ

namespace SetQ
open PySem PySem.Spec PyProof.Rows L2 PySem.Froz
open Sem (wp)
section
variable {P : Program} {w : World} {A : Around} {E : Value → Shared → Prop} {s : Shared}
theorem nodup_perm {α : Type} [DecidableEq α] : ∀ {l ws : List α}, l.Nodup → (∀ k ∈ l, k ∈ ws) → ws.length = l.length → ws.Perm l
  | [], ws, _, _, hl => by
    have : ws = [] := List.length_eq_zero_iff.mp hl
    rw [this]
  | k :: l, ws, nd, sub, hl => by
    obtain ⟨n1, n2⟩ := List.nodup_cons.mp nd
    have hk := sub k List.mem_cons_self
    have ih := nodup_perm (l := l) (ws := ws.erase k) n2 (fun x hx => ?_) (by rw [List.length_erase_of_mem hk, hl]; rfl)
    · exact (List.perm_cons_erase hk).trans (ih.cons k)
    · have hne : x ≠ k := fun e => n1 (e ▸ hx)
      exact (List.mem_erase_of_ne hne).mpr (sub x (List.mem_cons_of_mem _ hx))
/-- the keys of such a payload, as texts -/
theorem payload_strs {D : SD} {l : List Str} (F : TxOk P w D l) (nd : l.Nodup) : ∃ ws : List Str, StrsAre (D.1.toList.map (·.2)) ws ∧ ws.Perm l := by
  have key : ∀ es : List (Int × Value), ElemsOf (strKind P w) es → ∃ ws : List Str, StrsAre (es.map (·.2)) ws ∧ ws.length = es.length ∧ ∀ k : Str, (∃ e ∈ es, (strKind P w).is k e.2 = true) → k ∈ ws := by
    intro es
    induction es with
    | nil => exact fun _ => ⟨[], .nil, rfl, fun k ⟨e, he, _⟩ => absurd he List.not_mem_nil⟩
    | cons e es ih =>
      intro g
      obtain ⟨ws, h1, h2, h3⟩ := ih g.tail
      obtain ⟨⟨k, hk, _⟩, _⟩ := g.head
      obtain ⟨t, et⟩ := Value.isStrOf_shape (show Value.isStrOf k e.2 = true from hk)
      refine ⟨k :: ws, ?_, by rw [List.length_cons, List.length_cons, h2], fun k' ⟨e', he', hk'⟩ => ?_⟩
      · rw [List.map_cons, et]
        exact .cons k t h1
      · rcases List.mem_cons.mp he' with rfl | he'
        · obtain ⟨t', et'⟩ := Value.isStrOf_shape (show Value.isStrOf k' e'.2 = true from hk')
          rw [et] at et'
          injection et' with e1
          rw [e1]
          exact List.mem_cons_self
        · exact List.mem_cons_of_mem _ (h3 k' ⟨e', he', hk'⟩)
  obtain ⟨ws, h1, h2, h3⟩ := key D.1.toList F.el
  refine ⟨ws, h1, nodup_perm nd (fun k hk => h3 k ((F.mem k).mp hk)) ?_⟩
  rw [h2, Array.length_toList]
  exact F.sz
theorem sorted_setT {D : SD} {a : Addr} {l : List Str} {Q : Value → Shared → Prop} (ha : s.heap.get? a = some (sObj "set" D)) (F : TxOk P w D l) (nd : l.Nodup) (r : Ris D.2.2.place.toList) (hl : D.2.2.led = (!w.params.followText "set-order")) (hh : A.handled = none) (h64 : l.length < 64)
    (hQ : ∀ s' p (out : Array Value) (c : Nat) (ws : List Str), (∀ b o, s.heap.get? b = some o → s'.heap.get? b = some o) → s'.gens = s.gens → s'.os = s.os → s.heap.objs.size ≤ p →
      s'.heap.get? p = some (seqObj "list" out c) → StrsAre out.toList ws → sortedS ws = true → ws.Perm l → Q (.ref p) s') :
    wpAny (model P w) A (call (.builtin "sorted") [.ref a]) Q E s := by
  obtain ⟨es, ep, t⟩ := D
  obtain ⟨ws, hS, pw⟩ := payload_strs F nd
  have hsz : es.size = l.length := F.sz
  have led : w.params.followText "set-order" = true ∨ t.led = true := by
    have hl' : t.led = (!w.params.followText "set-order") := hl
    cases e : w.params.followText "set-order" with
    | true => exact .inl rfl
    | false =>
      rw [e] at hl'
      exact .inr hl'
  refine Calls.call_function_entry kind_sorted plain_sorted entry_sorted (args_sorted1 _) ?_
  unfold Builtin.«sorted»
  refine wpAny_bind (m := checkCount "sorted" 1 1 _) (wpAny_pure ?_)
  refine wpAny_bind (collect_set (A := A.in1) (a := a) (es := es) (ep := ep) (t := t) hh ⟨_, ha, rfl, rfl⟩ F.fit (by rw [hsz]; unfold scanBound; omega) r led fun s1 vs k1 hz g1 o1 pm => ?_)
  have vl : vs.length = l.length := by rw [pm.length_eq, List.length_map, Array.length_toList]; exact hsz
  -- what was collected, as texts
  have toS : ∀ {us vs : List Value}, us.Perm vs → ∀ {ws : List Str}, StrsAre vs ws → ∃ ws', StrsAre us ws' ∧ ws'.Perm ws := by
    intro us vs p
    induction p with
    | nil => exact fun {ws} h => ⟨ws, h, .refl _⟩
    | cons x _ ih =>
      intro ws h
      cases h with
      | cons y t h =>
        obtain ⟨ws', q1, q2⟩ := ih h
        exact ⟨y :: ws', .cons y t q1, q2.cons y⟩
    | swap x y l =>
      intro ws h
      cases h with
      | cons y1 t1 h =>
        cases h with
        | cons y2 t2 h => exact ⟨y2 :: y1 :: _, .cons y2 t2 (.cons y1 t1 h), .swap ..⟩
    | trans _ _ ih1 ih2 =>
      intro ws h
      obtain ⟨w1, q1, q2⟩ := ih2 h
      obtain ⟨w2, q3, q4⟩ := ih1 q1
      exact ⟨w2, q3, q4.trans q2⟩
  obtain ⟨us, hU, pU⟩ := toS pm hS
  refine wpAny_bind (wpAny_newList ?_ (by rw [vl, sizeLine_eq]; omega))
  have at1 : (s1.heap.push (seqObj "list" vs.toArray 0)).get? s1.heap.objs.size = some (seqObj "list" vs.toArray 0) := Heap.get?_push_size _ rfl
  refine wpAny_bind (wpAny_holding (wpAny_call_entry slot_list_sort ⟨_, at1, rfl⟩ entry_list_sort (list_sort_treeK strKind_oneLt at1 hU.keysOf (fun v₁ v₂ rest e => keyKind_strs (by rw [← e]; exact hU)) (by rw [vl]; exact h64) fun st' hp hs => ⟨_, rfl, ?_⟩) (args_list_sort _)))
  obtain ⟨ss', q1, q2, q3⟩ := sorted_out_str hU hp hs
  obtain ⟨c, hc⟩ := sortedHeap_at (vs := vs) (out := (arrOf st').map (·.2)) at1
  refine wpAny_pure ⟨_, rfl, hQ _ s1.heap.objs.size _ c ss' (fun b u e => ?_) g1 o1 hz hc q1 q3 ((q2.trans pU).trans pw)⟩
  have q := k1 b u e
  have hlt := Heap.lt_size q
  refine (sortedHeap_old (Nat.ne_of_lt hlt) (by rw [size_push']; exact Nat.lt_succ_of_lt hlt)).trans ?_
  exact Heap.get?_push_of_some _ q
end
/-- the set of the texts l at a, as its text was walked -/
def SetTx (P : Program) (w : World) (a : Addr) (l : List Str) : HO := .ext fun h => ∃ D, h.get? a = some (sObj "set" D) ∧ TxOk P w D l ∧ Ris D.2.2.place.toList ∧ D.2.2.led = (!w.params.followText "set-order")
section
variable {X : Cx}
/-- set(x) -/
def rSetT (P : Program) (w : World) : List V → Hp → VK → Prop := fun vs H Q => ∃ x : Str, vs = [.str x] ∧ x.cps.all (· < 128) = true ∧ x.cps.toList.Nodup ∧ x.cps.toList.length < 64 ∧ ∀ p, H p = none → Q (.ref p) (upd H p (SetTx P w p (x.cps.toList.reverse.map sing)))
theorem cr_setT (hc : X.calm = true) : CallR X (.type "set") (rSetT X.prog X.w) := by
  intro pins s σ H vs us Q I r h
  obtain ⟨x, rfl, asc, nd, len, q⟩ := h
  obtain ⟨u, rfl, r0⟩ : ∃ u, us = [u] ∧ RelV (.str x) u := by
    cases r with
    | cons a b => cases b; exact ⟨_, rfl, a⟩
  obtain ⟨t, rfl⟩ := r0
  refine call_setT (I.ok.hd hc) asc nd (Nat.lt_of_lt_of_le len (by unfold scanBound; decide)) fun h' tk D g1 g2 g3 g4 k => ?_
  have w1 : ∃ D, h'.get? s.heap.objs.size = some (sObj "set" D) ∧ TxOk X.prog X.w D (x.cps.toList.reverse.map sing) ∧ Ris D.2.2.place.toList ∧ D.2.2.led = (!X.w.params.followText "set-order") := ⟨D, g1, g2, g3, g4⟩
  have hn : H s.heap.objs.size = none := I.hok.fresh (Nat.le_refl _)
  exact ⟨.ref _, upd H s.heap.objs.size (SetTx X.prog X.w s.heap.objs.size (x.cps.toList.reverse.map sing)), I.laid k (Nat.le_refl _) ⟨w1, ⟨_, g1⟩, fun _ _ ⟨D, e, r⟩ st => ⟨D, st _ e, r⟩⟩, rfl, q _ hn⟩
/-- sorted(found) -/
def rSortedTx (P : Program) (w : World) : List V → Hp → VK → Prop := fun vs H Q => ∃ (a : Addr) (l : List Str), vs = [.ref a] ∧ H a = some (SetTx P w a l) ∧ l.Nodup ∧ l.length < 64 ∧ ∀ (ws : List Str) (p : Addr), sortedS ws = true → ws.Perm l → H p = none → Q (.ref p) (upd H p (.lst (ws.map V.str)))
theorem vals_of_strs : ∀ {us : List Value} {xs : List Str}, StrsAre us xs → Vals (xs.map V.str) us
  | _, _, .nil => .nil
  | _, _, .cons x t h => .cons ⟨t, rfl⟩ (vals_of_strs h)
theorem cr_sortedTx (hc : X.calm = true) : CallR X (.builtin "sorted") (rSortedTx X.prog X.w) := by
  intro pins s σ H vs us Q I r h
  obtain ⟨a, l, rfl, ha, nd, len, q⟩ := h
  obtain ⟨D, e1, e2, e3, e4⟩ := (I.hok a _ ha).1
  rw [Vals.ref1 r]
  refine sorted_setT e1 e2 nd e3 e4 (I.ok.hd hc) len fun s' p out c ws k g o hp at_ its srt perm => ?_
  have hn : H p = none := I.hok.fresh hp
  have size : (ws.map V.str).length ≤ sizeLine := by
    rw [List.length_map, perm.length_eq, sizeLine_eq]
    omega
  have J : Inv X pins σ (upd H p (.lst (ws.map V.str))) { s with heap := s'.heap, gens := s'.gens, drawn := s'.drawn, toks := s'.toks } := by
    refine I.call (ch := []) (Un.laid k hp hn) (I.hok.laid k hp ?_) ?_ ?_
    · exact ⟨size, out.toList, c, vals_of_strs its, at_⟩
    · rw [g]
      exact I.bare
    · exact fun _ z => absurd z List.not_mem_nil
  rw [GxR.sh_eta s s' o] at J
  exact ⟨.ref p, _, J, rfl, q ws p srt perm hn⟩
end
/-! ### one-sign texts, sorted -/
theorem le_unique : ∀ {a b : List Nat}, a.Perm b → a.Pairwise (· ≤ ·) → b.Pairwise (· ≤ ·) → a = b
  | [], b, p, _, _ => p.nil_eq
  | x :: a, [], p, _, _ => absurd p.symm.nil_eq (by simp)
  | x :: a, y :: b, p, ha, hb => by
    obtain ⟨a1, a2⟩ := List.pairwise_cons.mp ha
    obtain ⟨b1, b2⟩ := List.pairwise_cons.mp hb
    have xy : x = y := by
      have h1 : x ∈ y :: b := p.mem_iff.mp List.mem_cons_self
      have h2 : y ∈ x :: a := p.mem_iff.mpr List.mem_cons_self
      rcases List.mem_cons.mp h1 with e | e
      · exact e
      · rcases List.mem_cons.mp h2 with k | k
        · exact k.symm
        · exact Nat.le_antisymm (a1 y k) (b1 x e)
    subst xy
    rw [le_unique p.cons_inv a2 b2]
theorem rising_sing : ∀ (r : List Nat) (p : Nat), risingS (sing p) (r.map sing) = true → (∀ d ∈ r, p ≤ d) ∧ r.Pairwise (· ≤ ·)
  | [], p, _ => ⟨fun d h => absurd h List.not_mem_nil, .nil⟩
  | x :: r, p, h => by
    have h' : (!ltCps [x] [p] && risingS (sing x) (r.map sing)) = true := h
    rw [Bool.and_eq_true] at h'
    have px : p ≤ x := by
      have e := h'.1
      unfold ltCps at e
      by_cases g : p ≤ x
      · exact g
      · have lt : x < p := by omega
        simp [lt] at e
    obtain ⟨h1, h2⟩ := rising_sing r x h'.2
    refine ⟨fun d hd => ?_, List.pairwise_cons.mpr ⟨h1, h2⟩⟩
    rcases List.mem_cons.mp hd with e | e
    · rw [e]
      exact px
    · exact Nat.le_trans px (h1 d e)
theorem sorted_sing {l : List Nat} {ws : List Str} (s : sortedS ws = true) (p : ws.Perm (l.map sing)) : ∃ ds : List Nat, ws = ds.map sing ∧ ds.Perm l ∧ ds.Pairwise (· ≤ ·) := by
  have e : ws = (ws.map fun y : Str => y.cps.toList.headD 0).map sing := by
    rw [List.map_map]
    refine (List.map_id ws).symm.trans (List.map_congr_left fun y hy => ?_)
    obtain ⟨c, _, ec⟩ := List.mem_map.mp (p.mem_iff.mp hy)
    rw [← ec]
    rfl
  have q : (ws.map fun y : Str => y.cps.toList.headD 0).Perm l := by
    have := p.map fun y : Str => y.cps.toList.headD 0
    rw [List.map_map] at this
    have id' : (l.map ((fun y : Str => y.cps.toList.headD 0) ∘ sing)) = l := by
      refine (List.map_congr_left fun c _ => ?_).trans (List.map_id l)
      rfl
    rw [id'] at this
    exact this
  refine ⟨_, e, q, ?_⟩
  generalize (ws.map fun y : Str => y.cps.toList.headD 0) = ds at e
  rw [e] at s
  cases ds with
  | nil => exact .nil
  | cons x r =>
    obtain ⟨h1, h2⟩ := rising_sing r x s
    exact List.pairwise_cons.mpr ⟨h1, h2⟩
/-- ascending signs, sorted: the signs as they stand -/
theorem sorted_asc {l : List Nat} {ws : List Str} (a : l.Pairwise (· < ·)) (s : sortedS ws = true) (p : ws.Perm (l.reverse.map sing)) : ws = l.map sing := by
  obtain ⟨ds, e, q, h⟩ := sorted_sing s p
  rw [e, le_unique (q.trans l.reverse_perm) h (a.imp fun h => Nat.le_of_lt h)]
end SetQ

namespace SetQ
open PySem PySem.Spec PyProof.Rows L2 PySem.Froz
open Sem (wp)
/-! ### set(a) of any ascii text a, its signs now and then again -/
section
variable {P : Program} {w : World} {A : Around} {E : Value → Shared → Prop} {s : Shared}
/-- what is in the set is not put in again -/
theorem add_old {a : Addr} {T : String} {D : SD} {l : List Str} {k : Str} {u : Tok} {Q : Bool → Shared → Prop} (ho : s.heap.get? a = some (sObj T D)) (F : TxOk P w D l) (hk : k ∈ l) (hb : l.length < scanBound)
    (h : Q false s) : wpAny (model P w) A (setAddHashed a (.str k u) (hashStr w k)) Q E s := by
  obtain ⟨es, ep, t⟩ := D
  have hd : (sObj T (es, ep, t)).data = .set es ep t := rfl
  have hf : t.fits es.size = true := F.fit
  have hel : ElemsOf (strKind P w) es.toList := F.el
  have hsz : es.size = l.length := F.sz
  have hb0 : es.size < scanBound := by omega
  have hkey : (strKind P w).is k (.str k u) = true := is_str k u
  obtain ⟨j, hj⟩ : ∃ j, List.findIdx? (fun e => (strKind P w).is k e.2) es.toList = some j := by
    cases hr : List.findIdx? (fun e => (strKind P w).is k e.2) es.toList with
    | some j => exact ⟨j, rfl⟩
    | none =>
      obtain ⟨e, he, hp⟩ := (F.mem k).mp hk
      have := List.findIdx?_eq_none_iff.mp hr e he
      rw [this] at hp
      cases hp
  unfold setAddHashed setAddHashedIn
  refine wpAny_holding (wpAny_bind (wpAny_setState_of ho hd hf ?_))
  dsimp only
  rw [byScan_of rfl hb0 hel]
  simp only [↓reduceIte]
  unfold setAddByScan
  refine wpAny_bind ?_
  refine wpAny_bind (wpAny_rule ?_)
  refine wpAny_bind (wpAny_setScan_of (knd := strKind P w) (k := k) hkey ho hd hf hel ?_)
  rw [hj]
  dsimp only
  exact wpAny_pure (wpAny_pure h)
end
section
variable {P : Program} {w : World} {A : Around} {R : Result → Shared → Prop}
/-- the rest of a text's signs into the set, new ones and old ones -/
theorem code_update2 {a it : Addr} (hne : a ≠ it) {T : String} {x : Str} {u : Tok} (hh : A.handled = none) : ∀ (cs : List Nat) (i : Nat) (D : SD) (l : List Str) (s : Shared), x.cps.toList.drop i = cs →
    s.heap.get? a = some (sObj T D) → s.heap.get? it = some (itObj x u i) → TxOk P w D l → l.Nodup → Ris D.2.2.place.toList → l.length + cs.length < scanBound →
    (∀ (h' : Heap) (tk : Nat) (D' : SD) (l' : List Str), (∀ b o, b ≠ a → b ≠ it → s.heap.get? b = some o → h'.get? b = some o) → h'.get? a = some (sObj T D') → TxOk P w D' l' → l'.Nodup → Ris D'.2.2.place.toList → D'.2.2.led = D.2.2.led →
      (∀ k, k ∈ l' ↔ k ∈ l ∨ ∃ c ∈ cs, k = sing c) → l'.length ≤ l.length + cs.length → R (.ok (.ret .none)) { s with heap := h', toks := tk }) →
    codeAny (model P w) A (.builtin "set.update.loop" ⟨[.ref a, .ref it], []⟩) R s
  | [], i, D, l, s, hd, ha, hit, F, nd, ris, _, h => by
    refine codeAny_builtin PyProof.Rows.F.entry_set_update_loop ?_
    rw [Around.under_plainId PyProof.Rows.F.plain_set_update_loop _]
    show wpAny _ A.in1 (pyNext (.ref it) >>= _) _ _ s
    refine wpAny_bind (end_x (u := u) (by exact hh) hit (at_end hd) ?_)
    show wpAny _ A.in1 (ret Value.none) _ _ _
    refine wpAny_pure ?_
    refine h (endHeap s.heap it i) s.toks D l (fun b o ha' hi' e => ?_) ?_ F nd ris rfl (fun k => ⟨.inl, fun q => ?_⟩) (by simp)
    · unfold endHeap
      exact Heap.get?_push_of_some _ (Heap.get?_push_of_some _ (PySem.Heap.get?_update_of_ne _ (Ne.symm hi') e))
    · unfold endHeap
      exact Heap.get?_push_of_some _ (Heap.get?_push_of_some _ (PySem.Heap.get?_update_of_ne _ (Ne.symm hne) ha))
    · rcases q with q | ⟨c, hc, _⟩
      · exact q
      · cases hc
  | c :: r, i, D, l, s, hd, ha, hit, F, nd, ris, hb, h => by
    obtain ⟨hx, hd2⟩ := at_of hd
    have hb2 : l.length + (r.length + 1) < scanBound := hb
    refine codeAny_builtin PyProof.Rows.F.entry_set_update_loop ?_
    rw [Around.under_plainId PyProof.Rows.F.plain_set_update_loop _]
    show wpAny _ A.in1 (pyNext (.ref it) >>= _) _ _ s
    refine wpAny_bind (next_x (u := u) hit hx ?_)
    show wpAny _ A.in1 (holding [Value.str (sing c) s.toks] (setAdd a (.str (sing c) s.toks)) >>= _) _ _ _
    refine wpAny_bind (wpAny_holding ?_)
    unfold setAdd
    refine wpAny_holding ?_
    refine wpAny_bind ((strKind P w).pyHash (k := sing c) (is_str _ _) ?_)
    have ha1 : (s.heap.update it (fun _ => itObj x u (i + 1))).get? a = some (sObj T D) := PySem.Heap.get?_update_of_ne _ (Ne.symm hne) ha
    have hit1 : (s.heap.update it (fun _ => itObj x u (i + 1))).get? it = some (itObj x u (i + 1)) := get_upd _ hit rfl
    by_cases hcl : sing c ∈ l
    · refine add_old (l := l) (D := D) (s := { s with heap := s.heap.update it (fun _ => itObj x u (i + 1)), toks := s.toks + 1 + 1 }) ha1 F hcl (by omega) ?_
      refine wpAny_pure ⟨plainId_quiet PyProof.Rows.F.plain_set_update_loop _, code_update2 hne hh r (i + 1) _ l _ hd2 ha1 hit1 F nd ris (by omega) fun h' tk D' l' k1 k2 k3 k4 k5 k6 k7 k8 => ?_⟩
      refine h h' tk D' l' (fun b o n1 n2 e => k1 b o n1 n2 (PySem.Heap.get?_update_of_ne _ (Ne.symm n2) e)) k2 k3 k4 k5 k6 (fun k => ?_) (by simp only [List.length_cons]; omega)
      rw [k7]
      constructor
      · rintro (q | ⟨d, hd, e⟩)
        · exact .inl q
        · exact .inr ⟨d, List.mem_cons_of_mem _ hd, e⟩
      · rintro (q | ⟨d, hd, e⟩)
        · exact .inl q
        · rcases List.mem_cons.mp hd with q | q
          · subst q
            subst e
            exact .inl hcl
          · exact .inr ⟨d, q, e⟩
    · refine add_x (l := l) (D := D) (s := { s with heap := s.heap.update it (fun _ => itObj x u (i + 1)), toks := s.toks + 1 + 1 }) ha1 F hcl (by omega) ?_
      have ha2 : ((s.heap.update it (fun _ => itObj x u (i + 1))).update a (fun _ => sObj T (addTx (hashStr w (sing c)) (.str (sing c) s.toks) D))).get? a = some (sObj T (addTx (hashStr w (sing c)) (.str (sing c) s.toks) D)) := get_upd _ ha1 rfl
      have hit2 : ((s.heap.update it (fun _ => itObj x u (i + 1))).update a (fun _ => sObj T (addTx (hashStr w (sing c)) (.str (sing c) s.toks) D))).get? it = some (itObj x u (i + 1)) := PySem.Heap.get?_update_of_ne _ hne hit1
      have rr := addTx_ris (hashStr w (sing c)) (.str (sing c) s.toks) D ris
      refine wpAny_pure ⟨plainId_quiet PyProof.Rows.F.plain_set_update_loop _, code_update2 hne hh r (i + 1) _ (sing c :: l) _ hd2 ha2 hit2 (add_ok s.toks F) (List.nodup_cons.mpr ⟨hcl, nd⟩) rr.1 (by show l.length + 1 + r.length < scanBound; omega)
        fun h' tk D' l' k1 k2 k3 k4 k5 k6 k7 k8 => ?_⟩
      refine h h' tk D' l' (fun b o n1 n2 e => k1 b o n1 n2 (PySem.Heap.get?_update_of_ne _ (Ne.symm n1) (PySem.Heap.get?_update_of_ne _ (Ne.symm n2) e))) k2 k3 k4 k5 (k6.trans rr.2) (fun k => ?_) (by simp only [List.length_cons] at *; omega)
      rw [k7]
      constructor
      · rintro (q | ⟨d, hd, e⟩)
        · rcases List.mem_cons.mp q with q | q
          · exact .inr ⟨c, List.mem_cons_self .., q⟩
          · exact .inl q
        · exact .inr ⟨d, List.mem_cons_of_mem _ hd, e⟩
      · rintro (q | ⟨d, hd, e⟩)
        · exact .inl (List.mem_cons_of_mem _ q)
        · rcases List.mem_cons.mp hd with q | q
          · subst q
            subst e
            exact .inl (List.mem_cons_self ..)
          · exact .inr ⟨d, q, e⟩
end
section
variable {P : Program} {w : World} {A : Around} {E : Value → Shared → Prop} {s : Shared}
set_option maxHeartbeats 3200000 in
/-- set(x), x a text of ascii signs: its payload; what stood stands -/
theorem call_setT2 {x : Str} {u : Tok} {Q : Value → Shared → Prop} (hh : A.handled = none) (asc : x.cps.all (· < 128) = true) (hb : x.cps.toList.length < scanBound)
    (h : ∀ (h' : Heap) (tk : Nat) (D : SD) (l : List Str), h'.get? s.heap.objs.size = some (sObj "set" D) → TxOk P w D l → Ris D.2.2.place.toList → D.2.2.led = (!w.params.followText "set-order") → l.Nodup → (∀ k, k ∈ l ↔ ∃ c ∈ x.cps.toList, k = sing c) → l.length ≤ x.cps.toList.length →
      (∀ b o, s.heap.get? b = some o → h'.get? b = some o) → Q (.ref s.heap.objs.size) { s with heap := h', toks := tk }) :
    wpAny (model P w) A (call (.type "set") [.str x u]) Q E s := by
  obtain ⟨c, tl, hmro⟩ := F.called_set.mro
  have hmade := F.called_set.made
  have hsub := F.called_set.sub
  refine wpAny_call (codeAny_of_tree ?_)
  show wpAny _ _ (callAny (.type "set") _) _ _ _
  refine wpAny_pure ⟨Code.quiet_builtin _ (by decide +kernel), codeAny_builtin F.entry_type_call ?_⟩
  rw [Around.under_plain (weight_type_call_type "set" [.str x u] []) rfl]
  have n1 := F.called_set.notType
  have n2 := F.called_set.canCreate
  have n3 := F.typeCall_set_1 (.str x u)
  repeat (any_goals (first | assumption | wp_step))
  refine codeAny_mono (new_set1 (.str x u) (E := E) (Q₁ := fun obj s₁ => obj = .ref s.heap.objs.size ∧ s₁ = { s with heap := s.heap.push (setObj0 w) }) ⟨rfl, rfl⟩) fun r s₁ hr => ?_
  cases r with
  | error e => exact hr
  | ok fl =>
    cases fl with
    | ret obj =>
      obtain ⟨rfl, rfl⟩ := hr
      have at0 : (s.heap.push (setObj0 w)).get? s.heap.objs.size = some (setObj0 w) := Heap.get?_push_size _ rfl
      have ty0 : Shared.TypeIs { s with heap := s.heap.push (setObj0 w) } (.ref s.heap.objs.size) "set" := ⟨_, at0, rfl⟩
      have hli := F.called_set.init.lookup
      have hbi := F.called_set.init.bind (.ref s.heap.objs.size)
      repeat (any_goals (first | assumption | wp_step))
      refine codeAny_mono (codeAny_call_builtin (R := wants (fun r s₂ => r = .none ∧ ∃ h' tk D l, s₂ = { s with heap := h', toks := tk } ∧ h'.get? s.heap.objs.size = some (sObj "set" D) ∧ TxOk P w D l ∧ l.Nodup ∧ (∀ k, k ∈ l ↔ ∃ c ∈ x.cps.toList, k = sing c) ∧ l.length ≤ x.cps.toList.length ∧ Ris D.2.2.place.toList ∧
          D.2.2.led = (!w.params.followText "set-order") ∧ ∀ b o, s.heap.get? b = some o → h'.get? b = some o) E) F.called_set.init.plain F.entry_set_init (check_set_init_1 ty0 ?_)) fun r₂ s₂ hr₂ => ?_
      · have z1 := F.sub_str_set
        have z2 := F.sub_str_frozenset
        have z3 : (Value.type "str" == Value.type "dict") = false := by decide
        unfold Builtin.«set.__init__» noKeywords Builtin.Frozenset.updateFrom
        generalize hPI : pyIter = PI
        wp_walk
        subst hPI
        refine wpAny_pyIter_ascii asc ?_
        refine wpAny_bind (wpAny_runValue ?_)
        have lt0 : s.heap.objs.size < (s.heap.push (setObj0 w)).objs.size := by
          rw [Heap.size_push]
          exact Nat.lt_succ_self _
        have ne0 : s.heap.objs.size ≠ (s.heap.push (setObj0 w)).objs.size := Nat.ne_of_lt lt0
        have hA : A.in1.in1.handled = none := hh
        refine code_update2 (P := P) (a := s.heap.objs.size) (it := (s.heap.push (setObj0 w)).objs.size) ne0 (T := "set") (x := x) (u := u) hA x.cps.toList 0 (#[], 0, freshT w) [] _ rfl ?_ ?_ (TxOk.nil (by rfl)) List.nodup_nil List.Pairwise.nil ?_ ?_
        · exact Heap.get?_push_of_some _ at0
        · exact Heap.get?_push_size _ rfl
        · show 0 + x.cps.toList.length < scanBound
          omega
        · intro h' tk D' l' k1 k2 k3 k4 k5 k6 k7 k8
          show wpAny _ _ _ _ _ _
          refine wpAny_pure ?_
          show wpAny _ _ (ret Value.none) _ _ _
          refine wpAny_pure ⟨rfl, h', tk, D', l', rfl, k2, k3, k4, fun k => ?_, ?_, k5, k6, fun b o e => ?_⟩
          · rw [k7]
            exact ⟨fun q => q.elim (fun z => absurd z List.not_mem_nil) id, .inr⟩
          · have : ([] : List Str).length = 0 := rfl
            omega
          · have lb : b < s.heap.objs.size := Heap.lt_size e
            exact k1 b o (Nat.ne_of_lt lb) (Nat.ne_of_lt (Nat.lt_trans lb lt0)) (Heap.get?_push_of_some _ (Heap.get?_push_of_some _ e))
      · cases r₂ with
        | error e => exact hr₂
        | ok fl₂ =>
          cases fl₂ with
          | ret r =>
            obtain ⟨rfl, h', tk, D, l, rfl, g1, g2, g6, g7, g8, g3, g4, g5⟩ := hr₂
            repeat (any_goals (first | assumption | wp_step))
            exact h _ _ D l g1 g2 g3 g4 g6 g7 g8 g5
          | _ => exact hr₂.elim
    | _ => exact hr.elim
end
section
variable {X : Cx}
/-- set(x), x any ascii text -/
def rSetT2 (P : Program) (w : World) : List V → Hp → VK → Prop := fun vs H Q => ∃ x : Str, vs = [.str x] ∧ x.cps.all (· < 128) = true ∧ x.cps.toList.length < 64 ∧
  ∀ (p : Addr) (l : List Str), H p = none → l.Nodup → (∀ k, k ∈ l ↔ ∃ c ∈ x.cps.toList, k = sing c) → l.length ≤ x.cps.toList.length → Q (.ref p) (upd H p (SetTx P w p l))
theorem cr_setT2 (hc : X.calm = true) : CallR X (.type "set") (rSetT2 X.prog X.w) := by
  intro pins s σ H vs us Q I r h
  obtain ⟨x, rfl, asc, len, q⟩ := h
  obtain ⟨u, rfl, r0⟩ : ∃ u, us = [u] ∧ RelV (.str x) u := by
    cases r with
    | cons a b => cases b; exact ⟨_, rfl, a⟩
  obtain ⟨t, rfl⟩ := r0
  refine call_setT2 (I.ok.hd hc) asc (Nat.lt_of_lt_of_le len (by unfold scanBound; decide)) fun h' tk D l g1 g2 g3 g4 nd mem le k => ?_
  have w1 : ∃ D, h'.get? s.heap.objs.size = some (sObj "set" D) ∧ TxOk X.prog X.w D l ∧ Ris D.2.2.place.toList ∧ D.2.2.led = (!X.w.params.followText "set-order") := ⟨D, g1, g2, g3, g4⟩
  have hn : H s.heap.objs.size = none := I.hok.fresh (Nat.le_refl _)
  exact ⟨.ref _, upd H s.heap.objs.size (SetTx X.prog X.w s.heap.objs.size l), I.laid k (Nat.le_refl _) ⟨w1, ⟨_, g1⟩, fun _ _ ⟨D, e, r⟩ st => ⟨D, st _ e, r⟩⟩, rfl, q _ l hn nd mem le⟩
end
end SetQ

namespace Lb
open PySem PySem.Spec PyProof.Rows L2
/-! ### alphabets: list(x), set(x), sorted -/
def signV (c : Nat) : V := .str ⟨#[c]⟩
theorem vals_at : ∀ (xs : List V) (us : List Value), us.length = xs.length → (∀ (j : Nat) (u : Value), us[j]? = some u → ∃ x, xs[j]? = some x ∧ RelV x u) → Vals xs us
  | [], [], _, _ => .nil
  | x :: xs, u :: us, h, k => by
    obtain ⟨y, e, r⟩ := k 0 u rfl
    cases e
    exact .cons r (vals_at xs us (by simpa using h) fun j v hj => k (j + 1) v hj)
def rListT : List V → Hp → VK → Prop := fun vs H Q => ∃ x : Str, vs = [.str x] ∧ x.length ≤ sizeLine ∧ ∀ p, H p = none → Q (.ref p) (upd H p (.lst ((cs x).map signV)))
theorem cr_listT {X : Cx} (hc : X.calm = true) : CallR X (.type "list") rListT := by
  intro pins s σ H vs us Q I r h
  obtain ⟨x, rfl, len, q⟩ := h
  obtain ⟨u, rfl, t, rfl⟩ : ∃ u, us = [u] ∧ ∃ t, u = .str x t := by
    cases r with
    | cons a b =>
      cases b
      exact ⟨_, rfl, a⟩
  refine PySem.call_list_str (I.ok.hd hc) x t (fun h' tk acc c k e its => ?_)
  refine ⟨.ref s.heap.objs.size, upd H s.heap.objs.size (.lst ((cs x).map signV)), I.laid k (Nat.le_refl _) ⟨?_, acc.toList, c, ?_, e⟩, rfl, q _ (I.hok.fresh (Nat.le_refl _))⟩
  · rw [List.length_map, cs_len]
    exact len
  · refine vals_at _ _ ?_ fun j u hj => ?_
    · rw [List.length_map, cs_len, Array.length_toList]
      exact its.1
    · obtain ⟨cc, tt, hcc, rfl⟩ := its.2 j u (by rw [← Array.getElem?_toList]; exact hj)
      refine ⟨signV cc, ?_, tt, rfl⟩
      rw [List.getElem?_map, show (cs x)[j]? = some cc from (Array.getElem?_toList ..).trans hcc]
      rfl
end Lb
namespace Lb
open PySem PySem.Spec PyProof.Rows L2
/-! ### lists of signs, compared -/
def signD (c : Nat) : PyData := .str ⟨#[c]⟩
theorem dp_signs {K : PySem.W.Frag} {H : Hp} {a : Addr} {l : List Nat} (h : SqL K H a (l.map signV)) : Dp K H (.ref a) (.list (l.map signD)) := by
  refine .lst h ?_
  clear h
  induction l with
  | nil => exact .nil
  | cons c l ih => exact .cons (.str _) ih
theorem eqv_signs : ∀ l m : List Nat, PyData.eqvAll (l.map signD) (m.map signD) = decide (l = m)
  | [], [] => by simp [PyData.eqvAll]
  | [], _ :: _ => by simp [PyData.eqvAll]
  | _ :: _, [] => by simp [PyData.eqvAll]
  | c :: l, d :: m => by
    rw [List.map_cons, List.map_cons, PyData.eqvAll, eqv_signs l m]
    have e : PyData.eqv (signD c) (signD d) = decide (c = d) := by
      show ((⟨#[c]⟩ : Str) == ⟨#[d]⟩) = _
      by_cases h : c = d
      · subst h
        simp
      · rw [decide_eq_false h]
        refine beq_eq_false_iff_ne.mpr fun z => h ?_
        have := congrArg (fun y : Str => y.cps.toList) z
        simpa using this
    rw [e, ← Bool.decide_and]
    simp
theorem shaped_signs {l : List Nat} (h : ∀ c ∈ l, c < 128) : SeqAt.shaped (.list (l.map signD)) = true := by
  have lay : PyData.canLayAll0 (l.map signD) = true := by
    induction l with
    | nil => rfl
    | cons c l ih =>
      have hc := h c List.mem_cons_self
      have one : PyData.canLay0 (signD c) = true := by
        show (#[c] : Array Nat).all (· < 0x110000) = true
        simp
        omega
      rw [List.map_cons, PyData.canLayAll0, one, ih fun d m => h d (List.mem_cons_of_mem _ m)]
      rfl
  have dp : PyData.depthAll (l.map signD) = 0 := by
    clear lay h
    induction l with
    | nil => rfl
    | cons c l ih =>
      rw [List.map_cons, PyData.depthAll, ih]
      rfl
  show (PyData.canLayAll0 (l.map signD) && decide (PyData.depthAll (l.map signD) + 1 ≤ 64)) = true
  rw [lay, dp]
  rfl
theorem nodup_sings {l : List Nat} (h : l.Nodup) : (l.reverse.map PySem.Froz.sing).Nodup := by
  have r : l.reverse.Nodup := List.pairwise_reverse.mpr (h.imp fun e => Ne.symm e)
  refine List.pairwise_map.mpr (r.imp fun {a b} e z => e ?_)
  have := congrArg (fun y : Str => y.cps.toList) z
  have : [a] = [b] := this
  exact (List.cons.inj this).1
end Lb

namespace Own
open PySem PySem.Spec PyProof.Rows L2 ItX
section
variable {X : Cx} {pins : List (Addr × Obj)} {σ : L2.St} {H : Hp} {s : Shared} {C f a : Addr} {fd : FuncData} {ps : List Str} {sp : Sp} {n : Nat} {E : XK}
/-- the promise of a def that may speak of the size of the heap at its call -/
def FnY (P : Program) (w : World) (K : PySem.W.Frag) (mg : Str → Option Value) (base : Heap) (k : Nat) (f : Addr) (fd : FuncData) (ps : List Str) (sp : Nat → Sp) : Prop :=
  (∀ z vs H Q E, sp z vs H Q E → vs.length = ps.length) ∧ ∀ (A : Around) (outer : List Env) (s : Shared) (H : Hp) (args : Args) (us : List Value) (vs : List V) (Q : VK) (E : XK), Room k A → Env0 P w K mg base A outer s H →
    BindsTo s fd args (ps.zip us) → Vals vs us → sp s.heap.objs.size vs H Q E → codeAny (model P w) A (.call (.ref f) args) (CR CX0 outer P w H s Q E) s
theorem FnOk.young {P : Program} {w : World} {K : PySem.W.Frag} {mg : Str → Option Value} {base : Heap} {k : Nat} (F : FnOk P w K mg base CX0 k f fd ps sp) : FnY P w K mg base k f fd ps fun _ => sp :=
  ⟨fun _ => F.len, fun A outer s H args us vs Q E => F.run A outer s H args us vs Q E⟩
theorem fn_young {P : Program} {w : World} {K : PySem.W.Frag} {mg : Str → Option Value} {base : Heap} {x qual : Str} {st : Stmt} {N : List Str} {k : Nat} {spN : Nat → Sp} (F : Fun K x qual st f fd) (S : FnScope N ps (defScope st))
    (len : ∀ z vs H Q E, spN z vs H Q E → vs.length = ps.length)
    (go : ∀ (cdv : Value) (A : Around) (outer : List Env) (s : Shared) (H : Hp) (vs : List V) (Q : VK) (E : XK), Room k (A.deeper (envOfC qual (defScope st) s.heap.objs.size f cdv)) → spN s.heap.objs.size vs H Q E →
      ∃ t, PSs (cxOf CX0 P w K mg base N qual (defScope st) f cdv A outer s H E).nox (defBody st) t ∧ t { nx := fun _ H' => Q .non H', rt := Q } (start N vs) H) : FnY P w K mg base (k + 1) f fd ps spN := by
  refine ⟨len, ?_⟩
  intro A outer s H args us vs Q E room env bnd rel hsp
  -- a promise that holds at this heap alone
  obtain ⟨oc, od, kV, doc, pm, an, cdv, ct, osl, hfd, look, code⟩ := F.ex
  subst hfd
  have inK : K.In s.heap := env.mod.kin.keeps fun b o e => (env.bs b o e).1
  have known : ∀ y ∈ ps.zip us, (defScope st).names.lookup y.1 = some .local ∨ ((defScope st).names.lookup y.1 = some .cell ∧ ((cellsFrom (s.heap.objs.size + 1) (defScope st).names []).lookup y.1).isSome = true) := by
    rintro ⟨m, v⟩ my
    exact (S.par m (List.of_mem_zip my).1).imp id fun q => ⟨q, PySem.W.cellsFrom_some _ _ _ (.inl q)⟩
  refine codeAny_call_function room.depth (inK _ _ look) rfl S.co S.gen rfl (PySem.W.codeRec_of inK code) (bnd _ _ _ _ ?_)
  refine wpAny_newFunctionEnv_cells S.kind known fun env1 ee s1 nw => ?_
  subst ee
  refine ⟨(env.mod.nolimit.keeps fun b o e => (env.bs b o e).1).keeps nw.toInCall.keep, codeAny_func ?_⟩
  obtain ⟨t, body, met⟩ := go cdv A outer s H vs Q E (room.deeper _) hsp
  have I0 : L2.Inv (cxOf CX0 P w K mg base N qual (defScope st) f cdv A outer s H E) [] (start N vs) H s1 := inv_start S room.hd env (len _ _ _ _ _ hsp) rel nw
  refine wpAny_mono (body.nox.run [] s1 (start N vs) H _ I0 met) (fun fl s' ends => ?_) fun e s' hs => hs
  cases fl with
  | ret u =>
    obtain ⟨v, σ', H', J, rv, q⟩ := ends
    exact ⟨v, H', J.os, J.bare, J.base, J.hok, rv, q⟩
  | next =>
    obtain ⟨σ', H', J, q⟩ := ends
    exact ⟨V.non, H', J.os, J.bare, J.base, J.hok, rfl, q⟩
  | brk => exact ends.elim fun _ z => z.elim fun _ z => z.2.elim
  | cont => exact ends.elim fun _ z => z.elim fun _ z => z.2.elim
/-- a def of the text, called as a special method of an own instance -/
theorem run_own {spN : Nat → Sp} {A1 : Around} {Q : VK} {vs : List V} {us : List Value} {R : Value → Shared → Prop} {E' : Value → Shared → Prop} (sb : Sub X n A1) (F : FnY X.prog X.w X.K X.mg X.base n f fd ps spN) (b : Binds X.K fd ps [])
    (I : Inv X pins σ H s) (r : Vals vs us) (hsp : spN s.heap.objs.size vs H Q E) (hR : ∀ u v H' s', Inv X pins σ H' s' → RelV v u → Q v H' → R u s') :
    wpAny (model X.prog X.w) A1 (call (.ref f) us) R E' s := by
  have e0 : Env0 X.prog X.w X.K X.mg X.base A1 X.stack s H := by
    have e := I.env0
    exact ⟨by rw [sb.fr]; exact e.frames, e.mod, e.bs, e.bsz, e.funs, e.frf, e.hok, e.bare⟩
  have hl := F.1 _ _ _ _ _ hsp
  refine wpAny_call (codeAny_mono (F.2 A1 X.stack s H ⟨us, []⟩ us vs Q E sb.room e0 (by
    have := b s us I.kIn (by rw [List.append_nil, ← r.length]; exact hl)
    simpa using this) r hsp) fun r s' hq => ?_)
  cases r with
  | error e => exact hq.elim
  | ok fl =>
    cases fl with
    | ret u =>
      obtain ⟨v, H', I', rv, q⟩ := I.after hq
      exact hR u v H' s' I' rv q
    | next => exact False.elim hq
    | brk => exact False.elim hq
    | cont => exact False.elim hq
/-- len(o) of an own instance -/
def rLenOwn (C : Addr) (sp : Sp) (E : XK) : List V → Hp → VK → Prop := fun xs H Q => ∃ a dx fs, xs = [.ref a] ∧ H a = some (.ins C dx fs) ∧ sp [.ref a] H (fun v H' => ∃ i : Int, v = .int i ∧ 0 ≤ i ∧ i < 2 ^ 63 ∧ Q (.int i) H') E
theorem call_lenOwn (hl : PySem.W.findIn X.K (.ref C) "__len__" = some (some (.ref f))) (hf : PySem.W.isFn X.K (.ref f) = true) (F : FnOk X.prog X.w X.K X.mg X.base CX0 n f fd ps sp) (b : Binds X.K fd ps []) (hr : Room (n + 1) X.A) : CallR X (.builtin "len") (rLenOwn C sp E) := by
  intro pins s σ H xs us Q I rv h
  obtain ⟨a, dx, fs, rfl, ha, hsp⟩ := h
  obtain ⟨u, rfl, ru⟩ := rv.one
  cases ru
  have sb : Sub X n X.A.in1 := Sub.in1 (⟨hr, rfl⟩ : Sub X (n + 1) X.A)
  obtain ⟨mA, J, _⟩ := ins_get I.hok ha
  obtain ⟨od, J, _⟩ := J.look
  refine Calls.call_function_entry kind_len plain_len entry_len (args_len1 _) ?_
  unfold Builtin.«len»
  refine wpAny_bind (m := oneArg "len" _) (wpAny_pure ?_)
  refine wpAny_bind (m := callSpecial? (.ref a) (PySem.Str.ofString "__len__")) (PySem.W.special_fn (args := []) I.kIn J hl (beq_iff_eq.mp hf) (run_own sb (FnOk.young F) b I (.cons (show RelV (.ref a) (.ref a) from rfl) .nil) hsp fun u v H' s' I' rv' q => ?_))
  obtain ⟨i, rfl, i0, i1, q⟩ := q
  obtain ⟨t, rfl⟩ := rv'
  refine wpAny_bind (wpAny_holding (wpAny_pure ?_))
  refine wpAny_bind (wpAny_letGo ?_)
  show wpAny _ _ (if i < 0 then _ else _) _ _ _
  rw [if_neg (by omega)]
  show wpAny _ _ (if i ≥ 2 ^ 63 then _ else _) _ _ _
  rw [if_neg (by omega)]
  exact wpAny_bind (wpAny_mkInt (wpAny_pure ⟨_, rfl, .int i, H', I'.tok _, ⟨_, rfl⟩, q⟩))
/-- for x in o, o an own instance whose __iter__ tells a list's iterator -/
def iOwnL (K : PySem.W.Frag) (n : Nat) (C : Addr) (spN : Nat → Sp) (E : XK) (te : TE) : TI := fun σ H R => te σ H fun x H1 => ∃ a dx fs, x = .ref a ∧ H1 a = some (.ins C dx fs) ∧ ∀ z, n ≤ z →
  spN z [.ref a] H1 (fun v H2 => ∃ it l, v = .ref it ∧ n ≤ it ∧ H2 it = some (ItO l it 0) ∧ R (Itl K l) (dropH H2 it)) E
theorem pi_ownL {spN : Nat → Sp} {tg e : Expr} {te : TE} (hc : X.calm = true) (he : PE X e te) (hi : PySem.W.findIn X.K (.ref C) "__iter__" = some (some (.ref f))) (hf : PySem.W.isFn X.K (.ref f) = true) (F : FnY X.prog X.w X.K X.mg X.base n f fd ps spN) (b : Binds X.K fd ps [])
    (hr : Room n X.A) : PI X tg e (iOwnL X.K X.s_0.heap.objs.size C spN E te) := by
  refine ⟨fun pins s σ H R I h => ?_⟩
  refine thn (he.run pins s σ H _ I h) fun v s1 ⟨x, H1, I1, r1, a, dx, fs, ex, ha, hsp⟩ => ?_
  subst ex
  cases r1
  have sb : Sub X n X.A := ⟨hr, rfl⟩
  obtain ⟨mA, J, _⟩ := ins_get I1.hok ha
  obtain ⟨od, J, _⟩ := J.look
  obtain ⟨m0, hF⟩ := I1.fr
  refine PySem.W.owit_iter hF I1.ok.mod.kin J hi hf (run_own sb F b I1 (.cons (show RelV (.ref a) (.ref a) from rfl) .nil) (hsp _ I1.sz) fun u v H2 s2 I2 rv q => ?_)
  obtain ⟨it, l, rfl, hn, e2, hR⟩ := q
  cases rv
  have eo := itO_get I2 e2
  have hT : s2.TypeIs (.ref it) "list_iterator" := ⟨_, eo, rfl⟩
  unfold PySem.W.OwitIt
  refine wpAny_specialOf (name := Str.ofString "__next__") hT slot_listiter_next.lookup ?_
  have st : s2.heap.IsListIter it l 0 := ⟨_, eo, rfl, rfl⟩
  have e2' := e2
  unfold ItO at e2'
  refine ⟨it, [it], _, _, dropH H2 it, rfl, inv_drop I2 e2', turn_list l it, st, fun b hb => ?_, hR⟩
  have e : b = it := by simpa using hb
  rw [e]
  exact inv_fp I2 e2 hn
end
/-- an empty tuple of the written part (a default) -/
def KT0 (K : PySem.W.Frag) (p : Addr) : Prop := ∃ (o : Obj) (n : Nat), K.lookup p = some o ∧ o.cls = .type "tuple" ∧ o.data = .seq #[] n
theorem KT0.sq {K : PySem.W.Frag} {p : Addr} (h : KT0 K p) (H : Hp) : SqT K H p [] := by
  obtain ⟨o, n, e, c, d⟩ := h
  exact .inr ⟨o, #[], n, e, c, d, Nat.zero_le _, .nil⟩
/-- a list, a tuple, or such a default -/
def RowAt (K : PySem.W.Frag) (H : Hp) (p : Addr) (xs : List V) : Prop := H p = some (.lst xs) ∨ H p = some (.tup xs) ∨ (xs = [] ∧ KT0 K p)
theorem RowAt.same [Lb.Tabl] {K : PySem.W.Frag} {H H' : Hp} {p : Addr} {xs : List V} (h : RowAt K H p xs) (s : Lb.Same H H') : RowAt K H' p xs := h.imp (s _ _) fun h => h.imp (s _ _) id
theorem RowAt.sq {K : PySem.W.Frag} {H : Hp} {p : Addr} {xs : List V} (h : RowAt K H p xs) : SqL K H p xs ∨ SqT K H p xs := by
  rcases h with h | h | ⟨rfl, h⟩
  · exact .inl (.inl (.inl h))
  · exact .inr (.inl (.inl h))
  · exact .inr (h.sq H)
end Own

namespace SkF
open PySem PySem.Spec PyProof.Rows L2
open Lb (Tabl Good)
/-! ### sorted(xs, key=f), f a def of the program that makes new things only -/
section
variable [Tabl]
theorem sqL_same {K : PySem.W.Frag} {H H' : Hp} {a : Addr} {xs : List V} (s : Lb.Same H H') (h : SqL K H a xs) : SqL K H' a xs := by
  rcases h with (h | ⟨o, h⟩) | h
  · exact .inl (.inl (s.old a _ h))
  · exact .inl (.inr ⟨o, s.old a _ h⟩)
  · exact .inr h
theorem sqT_same {K : PySem.W.Frag} {H H' : Hp} {a : Addr} {xs : List V} (s : Lb.Same H H') (h : SqT K H a xs) : SqT K H' a xs := by
  rcases h with h | h
  · first
      | exact .inl (s.old a _ h)
      | (rcases h with h | ⟨o, h⟩
         · exact .inl (.inl (s.old a _ h))
         · exact .inl (.inr ⟨o, s.old a _ h⟩))
  · exact .inr h
mutual
theorem dp_same {K : PySem.W.Frag} {H H' : Hp} (s : Lb.Same H H') : ∀ (d : PyData) (v : V), Dp K H v d → Dp K H' v d
  | .none, _, h => by
    cases h
    exact .non
  | .bool _, _, h => by
    cases h
    exact .bl _
  | .int _, _, h => by
    cases h
    exact .int _
  | .str _, _, h => by
    cases h
    exact .str _
  | .list ds, _, h => by
    cases h with
    | lst q a => exact .lst (sqL_same s q) (dpAll_same s ds _ a)
  | .tuple ds, _, h => by
    cases h with
    | tup q a => exact .tup (sqT_same s q) (dpAll_same s ds _ a)
  | .dict _, _, h => by cases h
theorem dpAll_same {K : PySem.W.Frag} {H H' : Hp} (s : Lb.Same H H') : ∀ (ds : List PyData) (vs : List V), DpAll K H vs ds → DpAll K H' vs ds
  | [], _, h => by
    cases h
    exact .nil
  | d :: ds, _, h => by
    cases h with
    | cons a b => exact .cons (dp_same s d _ a) (dpAll_same s ds _ b)
end
theorem dpAll_snoc {K : PySem.W.Frag} {H : Hp} : ∀ {vs : List V} {ds : List PyData} {v : V} {d : PyData}, DpAll K H vs ds → Dp K H v d → DpAll K H (vs ++ [v]) (ds ++ [d])
  | _, _, _, _, .nil, h => .cons h .nil
  | _, _, _, _, .cons a b, h => .cons a (dpAll_snoc b h)
theorem dpAll_len {K : PySem.W.Frag} {H : Hp} : ∀ {vs : List V} {ds : List PyData}, DpAll K H vs ds → vs.length = ds.length
  | _, _, .nil => rfl
  | _, _, .cons _ b => congrArg (· + 1) (dpAll_len b)
theorem vals_snoc : ∀ {vs : List V} {us : List Value} {v : V} {u : Value}, Vals vs us → RelV v u → Vals (vs ++ [v]) (us ++ [u])
  | _, _, _, _, .nil, h => .cons h .nil
  | _, _, _, _, .cons a b, h => .cons a (vals_snoc b h)
theorem each_vals : ∀ {vs : List V} {us : List Value}, Vals vs us → PySem.W.EachIs (fun u v => RelV v u) us vs
  | _, _, .nil => .nil
  | _, _, .cons a b => .cons a (each_vals b)
theorem vals_each : ∀ {vs : List V} {us : List Value}, PySem.W.EachIs (fun u v => RelV v u) us vs → Vals vs us
  | _, _, .nil => .nil
  | _, _, .cons a b => .cons a (vals_each b)
theorem each_reads {X : Cx} {pins : List (Addr × Obj)} {σ : L2.St} {H : Hp} {s : Shared} (I : Inv X pins σ H s) : ∀ {ds : List PyData} {vs : List V} {us : List Value}, DpAll X.K H vs ds → Vals vs us → PySem.W.EachIs (fun u d => ∃ as, Reads s.heap u d as) us ds
  | _, _, _, .nil, .nil => .nil
  | _, _, _, .cons a b, .cons r t => .cons (Dp.reads I _ _ _ a r) (each_reads I b t)
/-- what is wanted of the key -/
def spKeyD (K : PySem.W.Frag) (rel : Hp → V → PyData → Prop) : Sp := fun vs H Q _ => ∃ (x : V) (d : PyData), vs = [x] ∧ rel H x d ∧ ∀ (y : V) (H' : Hp), Lb.Same H H' → Dp K H' y d → Q y H'
section
variable {X : Cx} {pins : List (Addr × Obj)} {σ : L2.St} {H : Hp} {s : Shared}
theorem room2 {k : Nat} {A : Around} (r : Room (k + 1) A) : Room k A.in1.in1 :=
  ⟨r.hd, by have := r.dp; show A.depth + 3 * k + 5 < _; omega, by have := r.un; show A.units + 1 + 1 + 16 * k + 200 < _; omega⟩
/-- one key -/
theorem run_key {k : Nat} {f : Addr} {fd : FuncData} {p : Str} {rel : Hp → V → PyData → Prop} (F : FnOk X.prog X.w X.K X.mg X.base CX0 k f fd [p] (spKeyD X.K rel)) (hb : Binds X.K fd [p] []) (hr : Room (k + 1) X.A) (I : Inv X pins σ H s) {x : V} {v : Value} {d : PyData} (rv : RelV x v) (hx : rel H x d) {E : Value → Shared → Prop} {Q : Value → Shared → Prop}
    (q : ∀ (y : V) (u : Value) (H' : Hp) (s' : Shared), Lb.Same H H' → Dp X.K H' y d → RelV y u → Inv X pins σ H' s' → (∀ b o, s.heap.get? b = some o → H b = none → b ∉ frs X.stack → s'.heap.get? b = some o) → (∀ b o, s.heap.get? b = some o → H b = none → H' b = none) → Q u s') :
    wpAny (model X.prog X.w) X.A.in1.in1 (call (.ref f) [v]) Q E s := by
  have e0 := I.env0
  have en : Env0 X.prog X.w X.K X.mg X.base X.A.in1.in1 X.stack s H := ⟨by exact I.ok.frames, e0.mod, e0.bs, e0.bsz, e0.funs, e0.frf, e0.hok, e0.bare⟩
  have r2 : Vals [x] [v] := .cons rv .nil
  refine wpAny_call (codeAny_mono (F.run X.A.in1.in1 X.stack s H ⟨[v], []⟩ [v] [x] (fun y H' => Lb.Same H H' ∧ Dp X.K H' y d) (fun _ _ _ => False) (room2 hr) en (hb s [v] I.kIn rfl) r2 ⟨x, d, rfl, hx, fun y H' a b => ⟨a, b⟩⟩) fun r s' hq => ?_)
  cases r with
  | error e => exact (hq : False).elim
  | ok fl =>
    cases fl with
    | ret u =>
      have hq' : CE X.stack X.prog X.w H s (fun y H' => Lb.Same H H' ∧ Dp X.K H' y d) u s' := hq
      have un := hq'
      obtain ⟨v1, H1, os, bare, un1, hok, rv1, sm1, dp1⟩ := un
      have I' : Inv X pins σ H1 s' := I.call' (ch := []) os un1 hok bare (fun b z => absurd z List.not_mem_nil)
      exact q v1 u H1 s' sm1 dp1 rv1 I' (fun b o e n hf => un1.keep b o e n hf List.not_mem_nil) (fun b o e n => un1.free b o e n List.not_mem_nil)
    | next => exact False.elim hq
    | brk => exact False.elim hq
    | cont => exact False.elim hq
theorem run_sortKey {k : Nat} {f : Addr} {fd : FuncData} {p : Str} {rel : Hp → V → PyData → Prop} (key : V → PyData) {a : Addr} {xs : List V} {Q : VK} (F : FnOk X.prog X.w X.K X.mg X.base CX0 k f fd [p] (spKeyD X.K rel)) (hb : Binds X.K fd [p] []) (hr : Room (k + 1) X.A) (hu : X.A.units + 64 < cLine)
    (st : ∀ H H' x d, Lb.Same H H' → rel H x d → rel H' x d) (I : Inv X pins σ H s) (hs : SqL X.K H a xs) (hx : ∀ x ∈ xs, rel H x (key x)) (hal : PySem.W.AllAlike (xs.map key)) (hk : PySem.W.Sortable (xs.map key)) (hd : ∀ x ∈ xs, (key x).depth ≤ 16)
    (q : ∀ (l : Addr) (H' : Hp), Lb.Same H H' → H l = none → H' l = some (.lst (xs.mergeSort (PySem.W.dataLe false key))) → Q (.ref l) H') :
    wpAny (model X.prog X.w) X.A (call (.builtin "sorted") [.ref a] [(Str.ofString "key", .ref f)]) (EP X pins σ Q) X.xe s := by
  obtain ⟨its, rv, hl, hz⟩ := I.list hs
  have hlen : its.length = xs.length := rv.length.symm
  have hz' : its.length ≤ sizeLine := by rw [hlen]; exact hz
  refine PySem.W.sorted_of_sort hl.isList hz' (ksk_s1 _ _) (fun _ => ksk_l1 _ _) fun E' => ?_
  rw [ksk_t1]
  -- the copy to be sorted stands at n + 1
  have at0 := PySem.W.copyHeap_at s.heap its
  generalize hg0 : PySem.W.copyHeap s.heap its = h0 at at0
  have old0 : ∀ b o, s.heap.get? b = some o → h0.get? b = some o := fun b o e => by rw [← hg0]; exact PySem.W.copyHeap_old e
  have lt0 : s.heap.objs.size + 1 < h0.objs.size := Heap.lt_size at0
  generalize hD : s.heap.objs.size + 1 = D at at0 lt0
  have geD : s.heap.objs.size ≤ D := by rw [← hD]; exact Nat.le_succ _
  obtain ⟨e1, at1⟩ : ∃ e1, (h0.update D (Obj.mapSeq fun _ => (#[] : Array Value))).get? D = some (seqObj "list" #[] e1) := ⟨_, get?_update_seq at0 fun _ => #[]⟩
  have hkS : ((h0.update D (Obj.mapSeq fun _ => (#[] : Array Value))).push (seqObj "tuple" its.toArray 0)).objs.size = h0.objs.size + 1 := by rw [size_push', Heap.size_update]
  generalize hkD : ((h0.update D (Obj.mapSeq fun _ => (#[] : Array Value))).push (seqObj "tuple" its.toArray 0)).objs.size = kS at hkS
  have neD : kS ≠ D := by rw [hkS]; exact Nat.ne_of_gt (Nat.lt_succ_of_lt lt0)
  have geS : s.heap.objs.size ≤ kS := by rw [hkS]; exact Nat.le_trans (Nat.le_trans geD (Nat.le_of_lt lt0)) (Nat.le_succ _)
  unfold ksk_tree
  refine wpAny_bind (listItems_at at0 rfl ?_)
  refine wpAny_bind (listUpdate_at at0 rfl ?_ (by rw [List.size_toArray]; exact hz') (Nat.zero_le _))
  refine wpAny_bind (seqEpoch_at at1 rfl ?_)
  refine wpAny_bind (wpAny_newTuple ?_ (by show its.length ≤ _; exact hz'))
  refine wpAny_bind (wpAny_newList ?_ (Nat.zero_le _))
  refine wpAny_holding ?_
  have atS : (((h0.update D (Obj.mapSeq fun _ => (#[] : Array Value))).push (seqObj "tuple" its.toArray 0)).push (seqObj "list" #[] 0)).get? kS = some (seqObj "list" #[] 0) := by
    rw [← hkD]
    exact Heap.get?_push_size _ rfl
  have atD : (((h0.update D (Obj.mapSeq fun _ => (#[] : Array Value))).push (seqObj "tuple" its.toArray 0)).push (seqObj "list" #[] 0)).get? D = some (seqObj "list" #[] e1) := Heap.get?_push_of_some _ (Heap.get?_push_of_some _ at1)
  have oldK : ∀ b o, s.heap.get? b = some o → (((h0.update D (Obj.mapSeq fun _ => (#[] : Array Value))).push (seqObj "tuple" its.toArray 0)).push (seqObj "list" #[] 0)).get? b = some o := fun b o e =>
    Heap.get?_push_of_some _ (Heap.get?_push_of_some _ ((Heap.get?_update_ne _ _ _ _ (Nat.ne_of_lt (Nat.lt_of_lt_of_le (Heap.lt_size e) geD))).trans (old0 b o e)))
  show wpAny (model X.prog X.w) X.A.in1.in1 (ksk_rest D (.ref f) false its.toArray e1 (.ref ((h0.update D (Obj.mapSeq fun _ => (#[] : Array Value))).push (seqObj "tuple" its.toArray 0)).objs.size)) _ E' { s with heap := ((h0.update D (Obj.mapSeq fun _ => (#[] : Array Value))).push (seqObj "tuple" its.toArray 0)).push (seqObj "list" #[] 0) }
  rw [hkD]
  have I0 : Inv X pins σ H { s with heap := ((h0.update D (Obj.mapSeq fun _ => (#[] : Array Value))).push (seqObj "tuple" its.toArray 0)).push (seqObj "list" #[] 0) } := I.kept (t' := s.toks) oldK
  generalize ((h0.update D (Obj.mapSeq fun _ => (#[] : Array Value))).push (seqObj "tuple" its.toArray 0)).push (seqObj "list" #[] 0) = h3 at atS atD I0
  have frOld : ∀ b ∈ frs X.stack, b < s.heap.objs.size := fun b hb => by
    obtain ⟨_, o, ho, _⟩ := I.stack.mem hb
    exact Heap.lt_size ho
  have nfD : D ∉ frs X.stack := fun z => absurd (frOld _ z) (Nat.not_lt.mpr geD)
  have nfS : kS ∉ frs X.stack := fun z => absurd (frOld _ z) (Nat.not_lt.mpr geS)
  have hnD : H D = none := I.hok.fresh geD
  have hnS : H kS = none := I.hok.fresh geS
  unfold ksk_rest
  refine wpAny_bind (wpAny_rule ?_)
  first
    | rw [List.forIn_toArray]
    | (rw [← Array.forIn_toList]; simp only [List.toList_toArray])
    | rw [← Array.forIn_toList]
  refine wpAny_bind (ksk_fold (fun i s' => ∃ (H1 : Hp) (kA : Array Value) (e : Nat) (ys : List V), Lb.Same H H1 ∧ Inv X pins σ H1 s' ∧ H1 D = none ∧ H1 kS = none ∧ s'.heap.get? kS = some (seqObj "list" kA e) ∧ s'.heap.get? D = some (seqObj "list" #[] e1) ∧ Vals ys kA.toList ∧ DpAll X.K H1 ys ((xs.take i).map key)) its 0 _
    ⟨H, #[], 0, [], .refl H, I0, hnD, hnS, atS, atD, .nil, by rw [List.take_zero]; exact .nil⟩ ?step ?done)
  case step =>
    rintro j v s' hv ⟨H1, kA, e, ys, sm, I1, nD, nS, gS, gD, vy, dy⟩
    simp only [Nat.zero_add] at dy ⊢
    obtain ⟨x, ex, rx⟩ : ∃ x, xs[j]? = some x ∧ RelV x v := by
      have hj : j < xs.length := by
        have := (List.getElem?_eq_some_iff.mp hv).1
        omega
      obtain ⟨u, hu', r⟩ := rv.get (List.getElem?_eq_getElem hj)
      rw [hv] at hu'
      cases hu'
      exact ⟨_, List.getElem?_eq_getElem hj, r⟩
    have hxx := hx x (List.mem_of_getElem? ex)
    have ysz : kA.size ≤ its.length := by
      have h1 := vy.length
      have h3 := dpAll_len dy
      rw [List.length_map, List.length_take] at h3
      have h4 : kA.toList.length = kA.size := Array.length_toList
      have h5 : ys.length = kA.toList.length := h1
      have h6 : min j xs.length ≤ xs.length := Nat.min_le_right ..
      rw [← h4, ← h5, h3, hlen]
      exact h6
    refine wpAny_bind (wpAny_attempt (run_key F hb hr I1 rx (st _ _ _ _ sm hxx) fun y u H2 s2 s12 dp2 ru I2 keep free => ?_))
    try dsimp only
    have gS2 := keep kS _ gS nS nfS
    have gD2 := keep D _ gD nD nfD
    have nS2 := free kS _ gS nS
    have nD2 := free D _ gD nD
    obtain ⟨c2, hc2⟩ : ∃ c2, (s2.heap.update kS (Obj.mapSeq (·.push u))).get? kS = some (seqObj "list" (kA.push u) c2) := ⟨_, get?_update_seq gS2 (·.push u)⟩
    have ea : (kA.push u).toList = kA.toList ++ [u] := by simp
    have ek : (xs.take (j + 1)).map key = (xs.take j).map key ++ [key x] := by
      rw [List.take_add_one, ex, List.map_append]
      rfl
    have fpS : FpOk X pins H2 kS := I.fpOk geS nS2
    refine wpAny_bind (listUpdate_at gS2 rfl ?_ (Nat.le_trans ysz hz') (Nat.le_trans (Nat.le_of_eq (Array.size_push ..)) (Nat.succ_le_succ (Nat.le_trans ysz hz'))))
    refine wpAny_pure ⟨rfl, H2, kA.push u, c2, ys ++ [y], sm.trans s12, ?_, nD2, nS2, hc2, (Heap.get?_update_ne _ _ _ _ (Ne.symm neD)).trans gD2, by rw [ea]; exact vals_snoc vy ru, by rw [ek]; exact dpAll_snoc (dpAll_same s12 _ _ dy) dp2⟩
    exact I2.turnedL (t' := s2.toks) (ch := [kS]) (fun b o hb ho => (Heap.get?_update_ne _ _ _ _ (fun z => hb (by rw [z]; exact List.mem_cons_self))).trans ho) (fun b hb => by rw [List.mem_singleton.mp hb]; exact fpS)
  case done =>
    rintro s' ⟨H1, kA, e, ys, sm, I1, nD, nS, gS, gD, vy, dy⟩
    have e3 : xs.take (0 + its.length) = xs := List.take_of_length_le (by omega)
    rw [e3] at dy
    have er := each_reads I1 dy vy
    have hsz : kA.size = its.length := by
      have h1 := er.length
      rw [Array.length_toList, List.length_map] at h1
      omega
    try dsimp only
    refine wpAny_bind (listItems_at gS rfl ?_)
    obtain ⟨G, g1, g2⟩ := restrict s'.heap fun b => decide (b ≠ kS ∧ b ≠ D)
    have gk : ∀ b o, b ≠ kS → b ≠ D → s'.heap.get? b = some o → G.get? b = some o := fun b o h1 h2 e => by
      rw [g1 b (decide_eq_true ⟨h1, h2⟩)]
      exact e
    have gback : ∀ b o, G.get? b = some o → s'.heap.get? b = some o ∧ b ≠ kS ∧ b ≠ D := fun b o e => by
      by_cases h : b ≠ kS ∧ b ≠ D
      · exact ⟨by rw [← g1 b (decide_eq_true h)]; exact e, h⟩
      · rw [g2 b (decide_eq_false h)] at e
        cases e
    have gS0 : G.get? kS = none := g2 kS (decide_eq_false fun z => z.1 rfl)
    have gD0 : G.get? D = none := g2 D (decide_eq_false fun z => z.2 rfl)
    have depth : ∀ d ∈ xs.map key, X.A.in1.in1.units + d.depth < cLine := fun d hd' => by
      obtain ⟨x, mx, rfl⟩ := List.mem_map.mp hd'
      have := hd x mx
      show X.A.units + 1 + 1 + _ < _
      omega
    refine PySem.W.keyH_end (κ := PySem.W.dataKind s'.heap (xs.map key)) (h₁ := G) (fun b o _ e => (gback b o e).1) gS0 gS gD neD (PySem.W.SortsAt.data er hal hk depth) hsz hz' fun h' tk c kp at' => ⟨rfl, ?_⟩
    have ko : PySem.W.KeyedOut false (xs.map key) its (PySem.W.sortVals (PySem.W.dataKind s'.heap (xs.map key)) false kA.toList its) := ⟨s'.heap, kA.toList, hal, rfl, er⟩
    have out := PySem.W.keyedOut_each key ko (each_vals rv)
    have IG : Inv X pins σ H1 { s' with heap := G } := I1.turnedL (t' := s'.toks) (ch := [kS, D]) (fun b o hb e => gk b o (fun z => hb (by rw [z]; exact List.mem_cons_self)) (fun z => hb (by rw [z]; exact List.mem_cons_of_mem _ List.mem_cons_self)) e) (fun b hb => by
      rcases List.mem_cons.mp hb with z | hb
      · rw [z]
        exact I.fpOk geS nS
      · rw [List.mem_singleton.mp hb]
        exact I.fpOk geD nD)
    have lenE : (xs.mergeSort (PySem.W.dataLe false key)).length = xs.length := (List.mergeSort_perm xs _).length_eq
    have IF := IG.laidN (a := D) (o := .lst (xs.mergeSort (PySem.W.dataLe false key))) (h' := h') (t' := tk) (fun b u e => kp b u (gback b u e).2.2 e) gD0 nD ⟨by rw [lenE]; exact hz, _, c, vals_each out, at'⟩
    exact ⟨.ref D, _, IF, rfl, q D _ (sm.trans (Lb.same_new nD)) hnD upd_same⟩
def rSortKey (K : PySem.W.Frag) (f : Addr) (rel : Hp → V → PyData → Prop) : List V → List V → Hp → VK → Prop := fun vs zs H Q => ∃ (a : Addr) (xs : List V) (key : V → PyData), vs = [.ref a] ∧ zs = [.ref f] ∧ SqL K H a xs ∧ (∀ x ∈ xs, rel H x (key x)) ∧
  PySem.W.AllAlike (xs.map key) ∧ PySem.W.Sortable (xs.map key) ∧ (∀ x ∈ xs, (key x).depth ≤ 16) ∧ ∀ (l : Addr) (H' : Hp), Lb.Same H H' → H l = none → H' l = some (.lst (xs.mergeSort (PySem.W.dataLe false key))) → Q (.ref l) H'
theorem cr_sortKey {k : Nat} {f : Addr} {fd : FuncData} {p : Str} {rel : Hp → V → PyData → Prop} (F : FnOk X.prog X.w X.K X.mg X.base CX0 k f fd [p] (spKeyD X.K rel)) (hb : Binds X.K fd [p] []) (hr : Room (k + 1) X.A) (hu : X.A.units + 64 < cLine)
    (st : ∀ H H' x d, Lb.Same H H' → rel H x d → rel H' x d) : CallRK X (.builtin "sorted") [Str.ofString "key"] (rSortKey X.K f rel) := by
  intro pins s σ H vs zs us ws Q I r rz h
  obtain ⟨a, xs, key, rfl, rfl, hs, hx, hal, hk, hd, q⟩ := h
  obtain rfl := Vals.ref1 r
  obtain ⟨w1, rfl, e1⟩ := vals1 rz
  obtain rfl : w1 = .ref f := e1
  exact run_sortKey key F hb hr hu st I hs hx hal hk hd q
end
end
end SkF

namespace DcT
open PySem PySem.Spec PyProof.Rows L2
section
variable {Z : Cx}
/-- d[k] = v by a comprehension, the key an int, a text or a tuple of them -/
theorem store {pn : List (Addr × Obj)} {τ : L2.St} {G G' : Hp} {t : Shared} {B : Value → Shared → Prop} {D : Addr} {y v : V} {u r : Value} {Q : Unit → Shared → Prop} (room : Z.A.units < cLine) (J : L2.Inv Z pn τ G t) (g : DPut G D y v G')
    (ry : RelV y u) (rv : RelV v r) (go : ∀ t', L2.Inv Z pn τ G' t' → Q () t') : wpAny (model Z.prog Z.w) Z.A (dictSet D u r) Q B t := by
  rcases g with ⟨kvs, k, at_, rfl, len, rfl⟩ | ⟨kvs, k, b, at_, rfl, key, len, rfl⟩
  · exact d_dictSet J at_ len ry rv go
  · obtain rfl : u = Value.ref b := ry
    obtain ⟨z, sys, xs, rel, dd⟩ := dt_of J.hok at_
    have more : (putK kvs k v).length ≤ sizeLine := by have := length_putK kvs k v; omega
    refine wpAny_dictSet_heap (hsz := by rw [← Paired.length rel]; exact z) (show Z.A.units < cLine from room) (key_of J.hok key) dd fun h' dd' but => go _ ?_
    obtain ⟨q, es, ep, hq, h2, h3, h4, _, h5⟩ := dd'
    refine d_write J (by rw [at_]; exact True.intro) but ⟨q, hq⟩ ⟨more, sys, _, (rel.put k key rv).keeps fun c ys ec => ?_, q, es, ep, hq, h2, h3, h4, h5⟩
    rw [upd_ne (ne_of ec at_ (fun z => nomatch z))]
    exact ec
/-- {k: v for target in iter if ..}, the keys tuples of ints and texts: D the new dict -/
def tDcT (wi : TI) (g : TG) (tt : TT) (tk tv : TE) (vs : List Nat) : TE := fun τ G Q => wi τ G fun J G1 => ∀ D, G1 D = none → ∃ W : Nat → Nat → Hp → Prop, (∃ m, W 0 m (upd G1 D (.dT []))) ∧
  ∀ i m G, W i m G → (J.stop i G ∧ Q (.ref D) G) ∨ (J.go i G ∧ ∃ Nx : Hp → Prop, (∀ G', Nx G' → ∃ m', m' < m ∧ W (i + 1) m' G') ∧
    ∀ x G', J.yld i G x G' → g x (wipe τ vs) G' fun τ2 G2 => wipe τ2 vs = wipe τ vs ∧ tt τ2 G2 fun b G3 => if b = true then tk τ2 G3 fun y G4 => tv τ2 G4 fun z G5 => ∃ G6, DPut G5 D y z G6 ∧ Nx G6 else Nx G3)
abbrev blkOf (Z : Cx) (t : Shared) (G : Hp) (sc : Scope) (C : Addr) (cl : List (Str × Addr)) (fp : List Addr) : Cx := Z.blk t G sc (compEnvC sc cl C Z.env) fp
theorem core {pn : List (Addr × Obj)} {t0 : Shared} {τ : L2.St} {G0 : Hp} {Q : VK} {kx vx tg iter : Expr} {ifs : List Expr} {sc : Scope} {own : List (Str × Nat)} {p1 p2 : Pos} {wi : TI} {g : TG} {tt : TT} {tk tv : TE}
    {use : Option (Value → Sem Unit)} {Qf : Value → Shared → Prop} (room : Z.A.units < cLine) (calm : Z.calm = true) (nd : Z.N.Nodup) (I0 : L2.Inv Z pn τ G0 t0) (hi : PI Z tg iter wi) (ok : BlkOk Z.N Z.env.scope sc own)
    (hg : ∀ t G C cl fp, PG (blkOf Z t G sc C cl fp) tg g) (ht : ∀ t G C cl fp, PTs (blkOf Z t G sc C cl fp) ifs tt) (hk : ∀ t G C cl fp, PE (blkOf Z t G sc C cl fp) kx tk) (hv : ∀ t G C cl fp, PE (blkOf Z t G sc C cl fp) vx tv)
    (hs : ∀ x, foldedSetIterable iter Z.env x = pure x) (h : tDcT wi g tt tk tv (own.map (·.2)) τ G0 Q)
    (back : ∀ D C t' m G', L2.Inv Z pn τ G' t' → Q (.ref D) G' → t'.heap.Ns C m → FpOk Z pn G' C → compPost (model Z.prog Z.w) Z.A Z.xe use Qf (.ref D) C (.ok .next) t') :
    wpAny (model Z.prog Z.w) Z.A (comprehension (.DictComp kx vx [⟨tg, iter, ifs, 0⟩] sc p1) sc Z.env p2 newDict false (eval iter Z.env) use) Qf Z.xe t0 := by
  have cells : ∀ y ∈ sc.names, y.2 = .free → ∃ c, Z.env.cells.lookup y.1 = some c := by
    intro y hy e
    exact (ok.free y hy e).elim (fun k => I0.ok.has _ (.inl k)) fun k => I0.ok.has _ (.inr k)
  refine wpAny_comprehension_free (use := use) rfl hs (closure_ok cells) ok.kind (fun y hy e => by rw [ok.uniq y hy, e]) (thn (hi.run pn t0 τ G0 _ I0 h) fun _ _ got => thn got fun _ t2 h2 => ?_)
  obtain ⟨it, fp, tn, J, G2, rfl, I2, T, st2, f2, q⟩ := h2
  refine wpAny_newObj_type (newEnv_comp ?_)
  obtain ⟨D, eD⟩ : ∃ D, t2.heap.objs.size = D := ⟨_, rfl⟩
  rw [eD]
  obtain ⟨W, ⟨m0, w0⟩, turn⟩ := q D (I2.hok.fresh (Nat.le_of_eq eD))
  -- with the new dict
  obtain ⟨t3, e3⟩ : ∃ t3 : Shared, ({ t2 with heap := t2.heap.push { cls := .type "dict", data := .dict #[] } } : Shared) = t3 := ⟨_, rfl⟩
  have hp3 : t3.heap = t2.heap.push { cls := .type "dict", data := .dict #[] } := by rw [← e3]
  have I3 : L2.Inv Z pn τ (upd G2 D (.dT [])) t3 := by
    rw [← e3]
    exact I2.laid (t' := t2.toks) (fun b o e => Heap.get?_push_of_some _ e) (Nat.le_of_eq eD) (by rw [← eD]; exact dt_empty t2.heap I2.big)
  have f3 : ∀ b ∈ fp, FpOk Z pn (upd G2 D (.dT [])) b ∧ b < t3.heap.objs.size := by
    intro b hb
    obtain ⟨o, e, _⟩ := T.obj _ _ st2 b hb
    have lt := Heap.lt_size e
    have ne : b ≠ D := fun e => by
      rw [e, ← eD] at lt
      exact Nat.lt_irrefl _ lt
    exact ⟨⟨by rw [upd_ne ne]; exact (f2 b hb).1, (f2 b hb).2⟩, by rw [hp3, Heap.size_push]; exact Nat.lt_succ_of_lt lt⟩
  have st3 : tn 0 t3.heap := T.keep _ _ _ st2 fun b _ o e => (by rw [hp3]; exact Heap.get?_push_of_some _ e)
  have I4 := block_start I3 ok nd f3
  have pg := hg t3 (upd G2 D (.dT [])) t3.heap.objs.size (cellsFrom (t3.heap.objs.size + 1) sc.names (cloFrom Z.env.cells sc.names [])) fp
  have pt := ht t3 (upd G2 D (.dT [])) t3.heap.objs.size (cellsFrom (t3.heap.objs.size + 1) sc.names (cloFrom Z.env.cells sc.names [])) fp
  have pk := hk t3 (upd G2 D (.dT [])) t3.heap.objs.size (cellsFrom (t3.heap.objs.size + 1) sc.names (cloFrom Z.env.cells sc.names [])) fp
  have pv := hv t3 (upd G2 D (.dT [])) t3.heap.objs.size (cellsFrom (t3.heap.objs.size + 1) sc.names (cloFrom Z.env.cells sc.names [])) fp
  have bare : ∀ b ∈ fp, (upd G2 D (.dT [])) b = none := fun b hb => (f3 b hb).1.1
  -- the block's own frame
  show codeAny _ _ (.compStart (.DictComp kx vx [⟨tg, iter, ifs, 0⟩] sc p1) 0 (.ref it) (.ref D) (compEnvC sc (cellsFrom ((t2.heap.push { cls := .type "dict", data := .dict #[] }).objs.size + 1) sc.names (cloFrom Z.env.cells sc.names [])) (t2.heap.push { cls := .type "dict", data := .dict #[] }).objs.size Z.env))
    (compPost (model Z.prog Z.w) Z.A Z.xe use Qf (.ref D) (t2.heap.push { cls := .type "dict", data := .dict #[] }).objs.size) { t2 with heap := pushCells ((t2.heap.push { cls := .type "dict", data := .dict #[] }).push _) sc.names }
  rw [← hp3]
  have other : ∀ hh : Heap, ({ t2 with heap := hh } : Shared) = { t3 with heap := hh } := fun hh => by rw [← e3]
  rw [other]
  obtain ⟨ce, ece⟩ : ∃ ce, compEnvC sc (cellsFrom (t3.heap.objs.size + 1) sc.names (cloFrom Z.env.cells sc.names [])) t3.heap.objs.size Z.env = ce := ⟨_, rfl⟩
  have at_ : ce.locals = t3.heap.objs.size := by rw [← ece]; rfl
  have pg : PG (Z.blk t3 (upd G2 D (.dT [])) sc ce fp) tg g := by rw [← ece]; exact pg
  have pt : PTs (Z.blk t3 (upd G2 D (.dT [])) sc ce fp) ifs tt := by rw [← ece]; exact pt
  have pk : PE (Z.blk t3 (upd G2 D (.dT [])) sc ce fp) kx tk := by rw [← ece]; exact pk
  have pv : PE (Z.blk t3 (upd G2 D (.dT [])) sc ce fp) vx tv := by rw [← ece]; exact pv
  rw [ece] at I4 ⊢
  generalize upd G2 D (.dT []) = G3 at I3 I4 pg pt pk pv w0 bare f3
  generalize e4 : ({ t3 with heap := pushCells (t3.heap.push _) sc.names } : Shared) = t4 at I4 ⊢
  have st4 : tn 0 t4.heap := T.keep _ _ _ st3 fun b _ o e => by rw [← e4]; exact pushCells_keeps _ _ _ _ (Heap.get?_push_of_some _ e)
  let B : Cx := Z.blk t3 G3 sc ce fp
  have still : ∀ {τ' G' t'}, L2.Inv B [] τ' G' t' → (∀ b ∈ fp, G' b = none) → ∀ b ∈ fp, FpOk B [] G' b := by
    intro τ' G' t' I' hn b hb
    exact ⟨hn b hb, (I'.ok.exf b hb).1, I'.ok.exfs b hb, .inl hb, fun x c e => (I'.ok.exf b hb).2 x c e, fun p hp => absurd (show p ∈ ([] : List (Addr × Obj)) ++ [] from hp) (by simp)⟩
  have loop : codeAny (model Z.prog Z.w) Z.A (.compLoop (.DictComp kx vx [⟨tg, iter, ifs, 0⟩] sc p1) 0 (.ref it) (.ref D) ce) (compPost (model Z.prog Z.w) Z.A Z.xe use Qf (.ref D) t3.heap.objs.size) t4 := by
    refine compLoop_anyD (fun n t' => ∃ i G', L2.Inv B [] (wipe τ (own.map (·.2))) G' t' ∧ tn i t'.heap ∧ (∀ b ∈ fp, G' b = none) ∧ W i n G') (fun n t5 ⟨i, G5, I5, st5, n5, w5⟩ => ?_) m0 ⟨0, G3, I4, st4, bare, w0⟩
    rcases turn i n G5 w5 with ⟨stop, done⟩ | ⟨goes, Nx, less, step⟩
    · refine thnF (T.done B rfl rfl rfl calm i [] t5 _ G5 (fun _ _ => False) I5 (still I5 n5) st5 stop) fun r t6 ⟨hr, I6⟩ => ?_
      subst hr
      have I7 : L2.Inv Z pn τ G5 t6 := I3.call' (ch := fp) I6.os I6.base I6.hok I6.bare fun b hb => by
        obtain ⟨⟨_, a1, _, a3, a4, a5⟩, _⟩ := f3 b hb
        exact ⟨a3, a1, a4, a5⟩
      have free : G5 ce.locals = none := I6.free
      obtain ⟨m, hm, _⟩ := I6.loc
      have ns : t6.heap.Ns ce.locals m := hm
      rw [at_] at free ns
      exact back D _ t6 m G5 I7 done ns (I3.fpOk (Nat.le_refl _) free)
    · refine thnF (T.item B rfl rfl rfl calm i [] t5 _ G5 (fun _ _ => False) I5 (still I5 n5) st5 goes) fun r t6 ⟨u, hr, h6⟩ => ?_
      subst hr
      refine thnF h6 fun _ t7 ⟨x, G7, I7, r7, y7, st7, n7⟩ => ?_
      refine thnF (pg.run _ t7 _ G7 x u _ (I7.pinned (still I7 n7) (T.obj _ _ st7)) r7 (step x G7 y7)) fun _ t8 ⟨τ8, G8, I8, same8, q8⟩ => ?_
      have fin : ∀ {t' : Shared} {G' : Hp}, L2.Inv B ([] ++ pinsAt fp t7.heap) τ8 G' t' → Nx G' → ∃ m, m < n ∧ ∃ i G', L2.Inv B [] (wipe τ (own.map (·.2))) G' t' ∧ tn i t'.heap ∧ (∀ b ∈ fp, G' b = none) ∧ W i m G' := by
        intro t' G' I' nx
        obtain ⟨m', hm, w'⟩ := less G' nx
        have kept : ∀ b ∈ fp, ∀ o, t7.heap.get? b = some o → t'.heap.get? b = some o ∧ G' b = none := fun b hb o e =>
          let k := I'.pin (b, o) (List.mem_append_right _ (List.mem_append_right _ (mem_pinsAt hb e)))
          ⟨k.1, k.2.1⟩
        refine ⟨m', hm, i + 1, G', (I'.unpinned (pins := [])).weak (by rw [← same8, wipe_length]) (fun j v e => ?_), T.keep _ _ _ st7 fun b hb o e => (kept b hb o e).1, fun b hb => ?_, w'⟩
        · rw [← same8] at e
          exact (wipe_some e).1
        · obtain ⟨o, e, _⟩ := T.obj _ _ st7 b hb
          exact (kept b hb o e).2
      refine thnF (pt.run _ t8 τ8 G8 _ I8 q8) fun b t9 ⟨G9, I9, q9⟩ => ?_
      cases b with
      | false => exact fin I9 q9
      | true =>
        refine thnF (pk.run _ t9 τ8 G9 _ I9 q9) fun u1 t10 ⟨yk, G10, I10, r10, q10⟩ => ?_
        refine thnF (pv.run _ t10 τ8 G10 _ I10 q10) fun u2 t11 ⟨yv, G11, I11, r11, G12, put, nx⟩ => ?_
        exact store (Z := B) room I11 put r10 r11 fun t12 I12 => fin I12 nx
  exact codeAny_compStart_dict loop (T.self Z.A 0 _ _ _ st4 loop)
/-- as a value -/
theorem pe_dcT {kx vx tg iter : Expr} {ifs : List Expr} {sc : Scope} {own : List (Str × Nat)} {pos : Pos} {wi : TI} {g : TG} {tt : TT} {tk tv : TE} (room : Z.A.units < cLine) (calm : Z.calm = true) (nd : Z.N.Nodup) (hi : PI Z tg iter wi) (ok : BlkOk Z.N Z.env.scope sc own)
    (hg : ∀ t G C cl fp, PG (blkOf Z t G sc C cl fp) tg g) (ht : ∀ t G C cl fp, PTs (blkOf Z t G sc C cl fp) ifs tt) (hk : ∀ t G C cl fp, PE (blkOf Z t G sc C cl fp) kx tk) (hv : ∀ t G C cl fp, PE (blkOf Z t G sc C cl fp) vx tv)
    (hs : ∀ x, foldedSetIterable iter Z.env x = pure x := by intro _; rfl) : PE Z (.DictComp kx vx [⟨tg, iter, ifs, 0⟩] sc pos) (tDcT wi g tt tk tv (own.map (·.2))) := by
  refine ⟨fun pn t τ G Q I h => ?_⟩
  rw [arm_eval_DictComp]
  exact core room calm nd I hi ok hg ht hk hv hs h fun D C t' m G' I' q hn ⟨f0, f1, _, f3, f4, f5⟩ => ⟨m, hn, fun h'' sb => ⟨.ref D, G', I'.turned (t' := t'.toks) (fun b o hb e => (sb.2 b hb).trans e) f0 f1 f3 f4 f5, rfl, q⟩⟩
end
end DcT

namespace EnT
open PySem PySem.Spec PyProof.Rows L2
/-! ### a list or a tuple walked; enumerate of a tuple -/
section
variable {X : Cx} {tg : Expr}
def iSeq (K : PySem.W.Frag) (te : TE) : TI := fun σ H R => te σ H fun v H1 => ∃ (a : Addr) (xs : List V), v = .ref a ∧ ((SqL K H1 a xs ∧ R (Itl K a) H1) ∨ (SqT K H1 a xs ∧ R (Itt K a) H1))
theorem pi_seq {e : Expr} {te : TE} (he : PE X e te) : PI X tg e (iSeq X.K te) := by
  refine ⟨fun pins s σ H R I h => thn (he.run pins s σ H _ I h) fun v s1 ⟨x, H1, I1, r1, a, xs, ex, q⟩ => ?_⟩
  subst ex
  cases r1
  have mine : ∀ b, b ∈ [s1.heap.objs.size] → FpOk X pins H1 b := fun b hb => by
    rw [List.mem_singleton.mp hb]
    exact I1.fpOk (Nat.le_refl _) (I1.hok.fresh (Nat.le_refl _))
  rcases q with ⟨hq, q⟩ | ⟨hq, q⟩
  · obtain ⟨its, _, p, _⟩ := I1.list hq
    refine wpAny_pyIter_list p.isList ⟨_, [s1.heap.objs.size], _, _, H1, rfl, I1.kept (t' := s1.toks) (fun b o e => Heap.get?_push_of_some _ e), turn_list a _, ⟨_, Heap.get?_push_size _ rfl, rfl, rfl⟩, mine, q⟩
  · obtain ⟨its, _, p, _⟩ := I1.tuple hq
    refine wpAny_pyIter_tuple (show s1.heap.IsTuple a its.toArray from p) ⟨_, [s1.heap.objs.size], _, _, H1, rfl, I1.kept (t' := s1.toks) (fun b o e => Heap.get?_push_of_some _ e), turn_tuple a _, ⟨_, Heap.get?_push_size _ rfl, rfl, rfl⟩, mine, q⟩
end
set_option maxHeartbeats 1000000 in
theorem meets_enum1 {v : Value} {o : Obj} {H : Heap → Prop} (B : Begins v o H) :
    Meets (Builtin.«enumerate.__new__» ⟨[.type "enumerate", v], []⟩) (fun _ R s => H s.heap ∧ R (.ok (.ret (.ref (s.heap.push o).objs.size))) { s with heap := (s.heap.push o).push { cls := .type "enumerate", data := .fields #[.none, .bool false, .ref s.heap.objs.size, rawInt 0, .none, .none] } }) :=
  .of_wp fun prog w A R s h => by
    obtain ⟨hp, g, d, tk, os⟩ := s
    obtain ⟨h1, h⟩ := h
    have hsub := sub_enumerate
    have q1 : ∀ {A' : Around} {E : Value → Shared → Prop} {Q : Value → Shared → Prop}, Q (.ref hp.objs.size) ⟨hp.push o, g, d, tk, os⟩ → wpAny (model prog w) A' (pyIter v) Q E ⟨hp, g, d, tk, os⟩ := fun q => B.iter prog w _ _ ⟨hp, g, d, tk, os⟩ _ h1 q
    wp_walk using q1
    refine wpAny_stack_any fun st => wpAny_pure ?_
    split
    · rename_i c _ _ _ _ _
      cases (c == Value.type "enumerate") <;> (wp_walk using q1; exact ⟨_, rfl, h⟩)
    · wp_walk using q1
      exact ⟨_, rfl, h⟩
theorem enum1 {prog : Program} {w : World} {A : Around} {E : Value → Shared → Prop} {s : Shared} {v : Value} {o : Obj} {H : Heap → Prop} {Q : Value → Shared → Prop} (B : Begins v o H) (h1 : H s.heap)
    (h : ∀ h', IsEnum h' (s.heap.objs.size + 1) s.heap.objs.size 0 .none → h'.get? s.heap.objs.size = some o → (∀ b ob, s.heap.get? b = some ob → h'.get? b = some ob) → Q (.ref (s.heap.objs.size + 1)) { s with heap := h' }) :
    wpAny (model prog w) A (call (.type "enumerate") [v]) Q E s := by
  refine callType_new F.called_enumerate (by decide) (F.typeCall_enumerate_1 _) (F.newCall_enumerate_1 _) (fun obj => F.args_object_init_2 obj _) F.entry_enumerate_new (meets_enum1 B) ⟨h1, ?_⟩
  have z : (s.heap.push o).objs.size = s.heap.objs.size + 1 := Heap.size_push ..
  have e : IsEnum ((s.heap.push o).push { cls := .type "enumerate", data := .fields #[.none, .bool false, .ref s.heap.objs.size, rawInt 0, .none, .none] }) (s.heap.objs.size + 1) s.heap.objs.size 0 .none := by
    rw [← z]
    exact Heap.get?_push_size (s.heap.push o) rfl
  show _ ∧ _
  rw [z]
  exact ⟨⟨_, e, rfl⟩, h _ e (Heap.get?_push_of_some _ (Heap.get?_push_size _ B.free)) fun b ob x => Heap.get?_push_of_some _ (Heap.get?_push_of_some _ x)⟩
/-- the tuple at a, each item in a new pair -/
def IteT (K : PySem.W.Frag) (a : Addr) : It :=
  ⟨fun i H => ∃ (xs : List V) (x : V), SqT K H a xs ∧ xs[i]? = some x, fun i H v H' => ∃ T x, v = .ref T ∧ H T = none ∧ H' = upd H T (.tup [.int (i : Nat), x]) ∧ ∀ xs, SqT K H a xs → xs[i]? = some x, fun i H => ∃ xs : List V, SqT K H a xs ∧ xs.length = i⟩
theorem turn_enumT {P : Program} {w : World} {K : PySem.W.Frag} {elts : List Expr} {kk : Nat} {tpos : Pos} (a e it : Addr) :
    Turn P w K (.Tuple elts kk tpos) (IteT K a) [e, it] e (fun i h => (∃ old, IsEnum h e it ((i : Nat) : Int) old) ∧ h.IsTupleIter it a i ∧ e ≠ it) where
  mem := List.mem_cons_self
  obj := fun i h ⟨⟨old, he⟩, ⟨o, ho, hc, hd⟩, _⟩ b hb => by
    rcases List.mem_cons.mp hb with z | z
    · rw [z]
      exact ⟨_, he, fun v q => nomatch q⟩
    · rw [List.mem_singleton.mp z]
      exact ⟨o, ho, fun v q => by rw [hd] at q; cases q⟩
  keep := fun i h h' ⟨⟨old, he⟩, hi, hne⟩ k => ⟨⟨old, k e (by simp) _ he⟩, hi.at fun o q => k it (by simp) o q, hne⟩
  item := by
    intro X hP hw hK hc i pins s σ H E I hf st hg
    subst hP hw hK
    obtain ⟨⟨old, he⟩, hit, hne⟩ := st
    obtain ⟨xs, x, hq, hx⟩ := hg
    obtain ⟨its, rv, p, hz⟩ := I.tuple hq
    obtain ⟨u, hu, ru⟩ := rv.get hx
    have el : e < s.heap.objs.size := Heap.lt_size he
    have il : it < s.heap.objs.size := by
      obtain ⟨_, q, _⟩ := hit
      exact Heap.lt_size q
    have ht : s.heap.IsTuple a its.toArray := p
    have ae : a ≠ e := fun z => by
      obtain ⟨o, ho, hcl, _⟩ := ht
      rw [z, he] at ho
      cases ho
      injection hcl with hcl
      exact absurd hcl (by decide)
    have ai : a ≠ it := fun z => by
      obtain ⟨o, ho, hcl, _⟩ := ht
      obtain ⟨o', ho', hc', _⟩ := hit
      rw [z, ho'] at ho
      cases ho
      rw [hc'] at hcl
      exact absurd hcl (by decide)
    have lx : i < its.toArray.size := by
      rw [List.size_toArray]
      exact (List.getElem?_eq_some_iff.mp hu).1
    have nf : e ∉ [it, a] := fun z => (List.mem_cons.mp z).elim hne fun y => ae (List.mem_singleton.mp y).symm
    refine wpAny_pyNext_enum_itemD (Draws.tuple (prog := X.prog) (w := X.w) (A := X.A.in1) (I.ok.hd hc) it a ai its.toArray) he ⟨hit, ht⟩ lx hne nf fun y h' tk hP ho st' hT hsz hk => ?_
    have ey : y = u := by
      have : its.toArray[i]? = some y := hP
      rw [List.getElem?_toArray, hu] at this
      exact (Option.some.inj this).symm
    subst ey
    refine ⟨_, rfl, wpAny_letOwnedTupleGo_enum (s := { s with heap := h', toks := tk + 1 }) ho fun h'' he' sb => ?_⟩
    have at_ : h''.get? s.heap.objs.size = some { cls := .type "tuple", data := .seq #[.int i tk, y] } := (sb.2 _ (Nat.ne_of_gt el)).trans hT
    have mine : ObjOk X.prog X.w (upd H s.heap.objs.size (.tup [.int (i : Nat), x])) h'' s.heap.objs.size (.tup [.int (i : Nat), x]) :=
      ⟨by show 2 ≤ sizeLine; decide, [.int i tk, y], .cons ⟨_, rfl⟩ (.cons ru .nil), ⟨_, at_, rfl, _, rfl⟩⟩
    have I1 : L2.Inv X pins σ (upd H s.heap.objs.size (.tup [.int (i : Nat), x])) { s with heap := h'', toks := tk + 1 } :=
      I.turnedNew (ch := [e, it]) (fun b ob hb q => (sb.2 b (fun z => hb (by simp [z]))).trans (hk b ob (fun z => hb (by simp [z])) (fun z => hb (by simp [z])) q)) hf (Nat.le_refl _) mine
    refine ⟨.ref s.heap.objs.size, _, I1, rfl, ⟨_, x, rfl, I.hok.fresh (Nat.le_refl _), rfl, fun ys hy => by rw [I.tuple_inj hy hq]; exact hx⟩, ⟨⟨y, ?_⟩, st'.1.at fun o q => (sb.2 it (Ne.symm hne)).trans q, hne⟩, fun b hb => ?_⟩
    · rw [show ((i + 1 : Nat) : Int) = (i : Int) + 1 by omega]
      exact he'
    · have lt : b < s.heap.objs.size := (List.mem_cons.mp hb).elim (fun z => by rw [z]; exact el) fun z => by rw [List.mem_singleton.mp z]; exact il
      rw [upd_ne (Nat.ne_of_lt lt)]
      exact (hf b hb).1
  done := by
    intro X hP hw hK hc i pins s σ H E I hf st hg
    subst hP hw hK
    obtain ⟨⟨old, he⟩, hit, hne⟩ := st
    obtain ⟨xs, hq, hx⟩ := hg
    obtain ⟨its, rv, p, hz⟩ := I.tuple hq
    have ht : s.heap.IsTuple a its.toArray := p
    have ai : a ≠ it := fun z => by
      obtain ⟨o, ho, hcl, _⟩ := ht
      obtain ⟨o', ho', hc', _⟩ := hit
      rw [z, ho'] at ho
      cases ho
      rw [hc'] at hcl
      exact absurd hcl (by decide)
    have le : i = its.toArray.size := by
      rw [List.size_toArray, ← rv.length]
      exact hx.symm
    subst le
    obtain ⟨f0, f1, f2, f3, f4, f5⟩ := hf it (by simp)
    exact wpAny_pyNext_enum_endD (Draws.tuple (prog := X.prog) (w := X.w) (A := X.A.in1) (I.ok.hd hc) it a ai its.toArray) he ⟨hit, ht⟩ fun h' eb => ⟨rfl, I.turned (t' := s.toks) (fun b o hb q => eb b o hb q) f0 f1 f3 f4 f5⟩
  self := fun A i s Q E ⟨⟨_, he⟩, _⟩ h => wpAny_pyIter_enum he h
section
variable {X : Cx} {tg : Expr}
def iEnumS (K : PySem.W.Frag) (ta : TA) : TI := fun σ H R => ta σ H fun vs H1 => ∃ (a : Addr) (xs : List V), vs = [.ref a] ∧ ((SqL K H1 a xs ∧ R (Ite K a) H1) ∨ (SqT K H1 a xs ∧ R (IteT K a) H1))
theorem pi_enumS {e : Expr} {ta : TA} {p pos tpos : Pos} {elts : List Expr} {kk : Nat} (hg : Gl X "enumerate") (hm : X.mg "enumerate" = none) (ha : PA X [e] ta) (hs : starEach [e] X.env = [(false, eval e X.env)] := by rfl) :
    PI X (.Tuple elts kk tpos) (.Call (.Name "enumerate" p) [e] [] pos) (iEnumS X.K ta) := by
  refine ⟨fun pins s σ H R I h => Call_ (ld_blt I hg hm boot_enumerate (PyProof.Rows.callWith_type1 (thn (ha.run pos pins s σ H _ I h) fun us s1 ⟨vs, H1, I1, r1, a, xs, ex, q⟩ => ?_) hs rfl))⟩
  subst ex
  obtain ⟨u, rfl, ru⟩ := vals1 r1
  cases ru
  have mine : ∀ b ∈ [s1.heap.objs.size + 1, s1.heap.objs.size], FpOk X pins H1 b := fun b hb => by
    have le : s1.heap.objs.size ≤ b := (List.mem_cons.mp hb).elim (fun z => by rw [z]; exact Nat.le_succ _) fun z => by rw [List.mem_singleton.mp z]; exact Nat.le_refl _
    exact I1.fpOk le (I1.hok.fresh le)
  rcases q with ⟨hq, q⟩ | ⟨hq, q⟩
  · obtain ⟨its, _, p', _⟩ := I1.list hq
    refine call_enumerate_list p'.isList fun h' he hit _ hk => wpAny_pyIter_enum he ?_
    exact ⟨_, _, _, _, H1, rfl, I1.kept (t' := s1.toks) hk, turn_enum a (s1.heap.objs.size + 1) s1.heap.objs.size, ⟨⟨.none, he⟩, hit, Nat.succ_ne_self _⟩, mine, q⟩
  · obtain ⟨its, _, p', _⟩ := I1.tuple hq
    refine enum1 (begins_tuple a its.toArray) (show s1.heap.IsTuple a its.toArray from p') fun h' he hit hk => wpAny_pyIter_enum he ?_
    exact ⟨_, _, _, _, H1, rfl, I1.kept (t' := s1.toks) hk, turn_enumT a (s1.heap.objs.size + 1) s1.heap.objs.size, ⟨⟨.none, he⟩, ⟨_, hit, rfl, rfl⟩, Nat.succ_ne_self _⟩, mine, q⟩
end
/-- a walk of n turns -/
theorem for_any {J : It} {n : Nat} {g : TG} {tb : TS} {D : Ends} {σ : L2.St} {H : Hp} (Pv : Nat → L2.St → Hp → Prop) (h0 : Pv 0 σ H)
    (go : ∀ i σ H, i < n → Pv i σ H → J.go i H ∧ ∀ x H', J.yld i H x H' → g x σ H' fun σ2 H2 => tb { D with nx := Pv (i + 1), ct := Pv (i + 1), bk := D.nx } σ2 H2) (stop : ∀ σ H, Pv n σ H → J.stop n H ∧ D.nx σ H) :
    ∃ W : Nat → Nat → L2.St → Hp → Prop, (∃ m, W 0 m σ H) ∧ ∀ i m σ H, W i m σ H →
      (J.stop i H ∧ D.nx σ H) ∨ (J.go i H ∧ ∃ N : L2.St → Hp → Prop, (∀ σ' H', N σ' H' → ∃ m', m' < m ∧ W (i + 1) m' σ' H') ∧ ∀ x H', J.yld i H x H' → g x σ H' fun σ2 H2 => tb { D with nx := N, ct := N, bk := D.nx } σ2 H2) := by
  refine ⟨fun i m σ H => m + i = n ∧ Pv i σ H, ⟨n, rfl, h0⟩, fun i m σ H ⟨e, p⟩ => ?_⟩
  by_cases lt : i < n
  · obtain ⟨a, b⟩ := go i σ H lt p
    exact .inr ⟨a, Pv (i + 1), fun σ' H' p' => ⟨m - 1, by omega, by omega, p'⟩, b⟩
  · have : i = n := by omega
    subst this
    exact .inl (stop σ H p)
open DcT in
/-- a dict of tuple keys, filled in n turns -/
theorem dc_any {J : It} {n : Nat} {g : TG} {tt : TT} {tk tv : TE} {vs : List Nat} {σ : L2.St} {H1 : Hp} {D : Addr} {Qd : Hp → Prop} (Pv : Nat → Hp → Prop) (h0 : Pv 0 (upd H1 D (.dT [])))
    (go : ∀ i H, i < n → Pv i H → J.go i H ∧ ∀ x H', J.yld i H x H' → g x (wipe σ vs) H' fun σ2 H2 => wipe σ2 vs = wipe σ vs ∧ tt σ2 H2 fun b H3 =>
      if b = true then tk σ2 H3 fun y H4 => tv σ2 H4 fun z H5 => ∃ H6, DPut H5 D y z H6 ∧ Pv (i + 1) H6 else Pv (i + 1) H3) (stop : ∀ H, Pv n H → J.stop n H ∧ Qd H) :
    ∃ W : Nat → Nat → Hp → Prop, (∃ m, W 0 m (upd H1 D (.dT []))) ∧ ∀ i m H, W i m H → (J.stop i H ∧ Qd H) ∨ (J.go i H ∧ ∃ Nx : Hp → Prop, (∀ H', Nx H' → ∃ m', m' < m ∧ W (i + 1) m' H') ∧
      ∀ x H', J.yld i H x H' → g x (wipe σ vs) H' fun σ2 H2 => wipe σ2 vs = wipe σ vs ∧ tt σ2 H2 fun b H3 => if b = true then tk σ2 H3 fun y H4 => tv σ2 H4 fun z H5 => ∃ H6, DPut H5 D y z H6 ∧ Nx H6 else Nx H3) := by
  refine ⟨fun i m H => m + i = n ∧ Pv i H, ⟨n, rfl, h0⟩, fun i m H ⟨e, p⟩ => ?_⟩
  by_cases lt : i < n
  · obtain ⟨a, b⟩ := go i H lt p
    exact .inr ⟨a, Pv (i + 1), fun H' p' => ⟨m - 1, by omega, by omega, p'⟩, b⟩
  · have : i = n := by omega
    subst this
    exact .inl (stop H p)
end EnT

namespace SetQ
open PySem PySem.Spec PyProof.Rows L2 PySem.Froz
open Sem (wp)
/-! ### set(xs), xs a list of texts, now and then the same one again -/
theorem strs_at : ∀ {vs : List Value} {xs : List Str}, StrsAre vs xs → ∀ (i : Nat) (v : Value), vs[i]? = some v → ∃ x t, xs[i]? = some x ∧ v = .str x t
  | _, _, .nil, i, v, h => by simp at h
  | _, _, .cons x t r, 0, v, h => ⟨x, t, rfl, (Option.some.inj h).symm⟩
  | _, _, .cons x t r, i + 1, v, h => strs_at r i v h
section
variable {P : Program} {w : World} {A : Around} {R : Result → Shared → Prop} {I : Addr} {fp wr : List Addr} {G : Array GenState → Array GenState → Prop} {n : Nat} {Pv : Nat → Value → Prop} {St : Nat → Shared → Prop}
theorem set_update_strs (W : WalksS P w A.in1 I fp wr G n Pv St) (S : Addr) (hSf : S ∉ fp) {T : String} (xs : List Str) (hn : n = xs.length) (hval : ∀ i v, Pv i v → ∃ x t, xs[i]? = some x ∧ v = .str x t) (hb : xs.length < scanBound) (led : Bool) :
    ∀ (k i : Nat) (s : Shared) (D : SD) (l : List Str), n - i = k → i ≤ n → St i s → s.heap.get? S = some (sObj T D) → TxOk P w D l → l.Nodup → Ris D.2.2.place.toList → D.2.2.led = led → (∀ y, y ∈ l ↔ y ∈ xs.take i) → l.length ≤ i →
      (∀ s' D l, Moved (S :: wr) G s s' → s'.heap.get? S = some (sObj T D) → TxOk P w D l → l.Nodup → Ris D.2.2.place.toList → D.2.2.led = led → (∀ y, y ∈ l ↔ y ∈ xs) → l.length ≤ xs.length → R (.ok (.ret .none)) s') →
      codeAny (model P w) A (.builtin "set.update.loop" ⟨[.ref S, .ref I], []⟩) R s := by
  have hSw : S ∉ wr := fun h => hSf (W.sub _ h)
  have hsub : ∀ b ∈ wr, b ∈ S :: wr := fun b hb => List.mem_cons_of_mem _ hb
  intro k
  induction k with
  | zero =>
    intro i s D l hk hi hst ho F nd ris hl mem len hR
    have hin : i = xs.length := by omega
    have hin' : i = n := by omega
    refine codeAny_builtin PyProof.Rows.F.entry_set_update_loop ?_
    rw [Around.under_plainId PyProof.Rows.F.plain_set_update_loop _]
    show wpAny _ A.in1 (pyNext (.ref I) >>= _) _ _ s
    refine wpAny_bind (W.done s _ _ (hin' ▸ hst) fun s' hm => ?_)
    show wpAny _ A.in1 (ret Value.none) _ _ s'
    refine wpAny_pure (hR s' D l (hm.mono hsub) (hm.heap S _ hSw ho) F nd ris hl (fun y => ?_) (by omega))
    rw [mem, hin, List.take_length]
  | succ k ih =>
    intro i s D l hk hi hst ho F nd ris hl mem len hR
    have hlt : i < n := by omega
    refine codeAny_builtin PyProof.Rows.F.entry_set_update_loop ?_
    rw [Around.under_plainId PyProof.Rows.F.plain_set_update_loop _]
    show wpAny _ A.in1 (pyNext (.ref I) >>= _) _ _ s
    refine wpAny_bind (W.item i s _ _ hlt hst fun v s' hP hst' hm => ?_)
    obtain ⟨x, t, hx, rfl⟩ := hval i v hP
    have ho' := hm.heap S _ hSw ho
    show wpAny _ A.in1 (holding [Value.str x t] (setAdd S (.str x t)) >>= _) _ _ s'
    refine wpAny_bind (wpAny_holding ?_)
    unfold setAdd
    refine wpAny_holding ?_
    refine wpAny_bind ((strKind P w).pyHash (k := x) (is_str _ _) ?_)
    have tk : xs.take (i + 1) = xs.take i ++ [x] := by
      rw [List.take_add_one, hx]
      rfl
    by_cases hcl : x ∈ l
    · refine add_old (l := l) (D := D) (s := { s' with toks := s'.toks + 1 }) ho' F hcl (by omega) ?_
      refine wpAny_pure ⟨plainId_quiet PyProof.Rows.F.plain_set_update_loop _, ih (i + 1) _ D l (by omega) hlt (W.frame _ s' s'.heap _ hst' (Nat.le_succ _) fun b _ o e => e) ho' F nd ris hl (fun y => ?_) (by omega) fun s'' D' l' hm'' => hR s'' D' l' (Moved.trans W.gtrans ((hm.mono hsub).then_heap (Nat.le_succ _) fun b o _ e => e) hm'')⟩
      rw [mem, tk, List.mem_append, List.mem_singleton]
      constructor
      · exact .inl
      · rintro (q | rfl)
        · exact q
        · exact (mem _).mp hcl
    · refine add_x (l := l) (D := D) (s := { s' with toks := s'.toks + 1 }) ho' F hcl (by omega) ?_
      have ho2 : (s'.heap.update S (fun _ => sObj T (addTx (hashStr w x) (.str x t) D))).get? S = some (sObj T (addTx (hashStr w x) (.str x t) D)) := get_upd _ ho' rfl
      have rr := addTx_ris (hashStr w x) (.str x t) D ris
      refine wpAny_pure ⟨plainId_quiet PyProof.Rows.F.plain_set_update_loop _, ih (i + 1) _ _ (x :: l) (by omega) hlt (W.frame _ s' _ _ hst' (Nat.le_succ _) fun b hb o e => PySem.Heap.get?_update_of_ne _ (fun z => hSf (by rw [z]; exact hb)) e) ho2 (add_ok t F) (List.nodup_cons.mpr ⟨hcl, nd⟩) rr.1 (rr.2.trans hl) (fun y => ?_)
        (by show l.length + 1 ≤ i + 1; omega) fun s'' D' l' hm'' => hR s'' D' l' (Moved.trans W.gtrans ((hm.mono hsub).then_heap (Nat.le_succ _) fun b o hb e => PySem.Heap.get?_update_of_ne _ (fun z => hb (by rw [z]; exact List.mem_cons_self)) e) hm'')⟩
      rw [tk, List.mem_append, List.mem_singleton, List.mem_cons, mem]
      exact Or.comm
end
section
variable {P : Program} {w : World} {A : Around} {E : Value → Shared → Prop} {s : Shared}
set_option maxHeartbeats 3200000 in
/-- set(xs): its payload; what stood stands -/
theorem call_setL {l : Addr} {items : Array Value} {xs : List Str} {Q : Value → Shared → Prop} (hh : A.handled = none) (hl : s.heap.IsList l items) (hi : StrsAre items.toList xs) (hb : xs.length < scanBound)
    (h : ∀ (h' : Heap) (tk : Nat) (D : SD) (m : List Str), h'.get? s.heap.objs.size = some (sObj "set" D) → TxOk P w D m → Ris D.2.2.place.toList → D.2.2.led = (!w.params.followText "set-order") → m.Nodup → (∀ y, y ∈ m ↔ y ∈ xs) → m.length ≤ xs.length →
      (∀ b o, s.heap.get? b = some o → h'.get? b = some o) → Q (.ref s.heap.objs.size) { s with heap := h', toks := tk }) :
    wpAny (model P w) A (call (.type "set") [.ref l]) Q E s := by
  have hsz : items.size = xs.length := by
    rw [← Array.length_toList]
    exact hi.length
  obtain ⟨c, tl, hmro⟩ := F.called_set.mro
  have hmade := F.called_set.made
  have hsub := F.called_set.sub
  refine wpAny_call (codeAny_of_tree ?_)
  show wpAny _ _ (callAny (.type "set") _) _ _ _
  refine wpAny_pure ⟨Code.quiet_builtin _ (by decide +kernel), codeAny_builtin F.entry_type_call ?_⟩
  rw [Around.under_plain (weight_type_call_type "set" [.ref l] []) rfl]
  have n1 := F.called_set.notType
  have n2 := F.called_set.canCreate
  have n3 := F.typeCall_set_1 (.ref l)
  repeat (any_goals (first | assumption | wp_step))
  refine codeAny_mono (new_set1 (.ref l) (E := E) (Q₁ := fun obj s₁ => obj = .ref s.heap.objs.size ∧ s₁ = { s with heap := s.heap.push (setObj0 w) }) ⟨rfl, rfl⟩) fun r s₁ hr => ?_
  cases r with
  | error e => exact hr
  | ok fl =>
    cases fl with
    | ret obj =>
      obtain ⟨rfl, rfl⟩ := hr
      have at0 : (s.heap.push (setObj0 w)).get? s.heap.objs.size = some (setObj0 w) := Heap.get?_push_size _ rfl
      have ty0 : Shared.TypeIs { s with heap := s.heap.push (setObj0 w) } (.ref s.heap.objs.size) "set" := ⟨_, at0, rfl⟩
      have hli := F.called_set.init.lookup
      have hbi := F.called_set.init.bind (.ref s.heap.objs.size)
      repeat (any_goals (first | assumption | wp_step))
      refine codeAny_mono (codeAny_call_builtin (R := wants (fun r s₂ => r = .none ∧ ∃ h' tk D m, s₂ = { s with heap := h', toks := tk } ∧ h'.get? s.heap.objs.size = some (sObj "set" D) ∧ TxOk P w D m ∧ m.Nodup ∧ (∀ y, y ∈ m ↔ y ∈ xs) ∧ m.length ≤ xs.length ∧ Ris D.2.2.place.toList ∧
          D.2.2.led = (!w.params.followText "set-order") ∧ ∀ b o, s.heap.get? b = some o → h'.get? b = some o) E) F.called_set.init.plain F.entry_set_init (check_set_init_1 ty0 ?_)) fun r₂ s₂ hr₂ => ?_
      · obtain ⟨ol, hol, hcl, nl, hdl⟩ := hl
        obtain ⟨ocls, odict, odata, oslots⟩ := ol
        simp only at hcl hdl
        subst hcl
        subst hdl
        have hol' : (s.heap.push (setObj0 w)).get? l = some { cls := .type "list", dict := odict, data := .seq items nl, slots := oslots } := Heap.get?_push_of_some _ hol
        have hsls := F.sub_list_set
        have hslf := F.sub_list_frozenset
        have hne : (Value.type "list" == Value.type "dict") = false := by decide
        have hl1 : (s.heap.push (setObj0 w)).IsList l items := ⟨_, hol', rfl, nl, rfl⟩
        unfold Builtin.«set.__init__» noKeywords Builtin.Frozenset.updateFrom
        generalize hPI : pyIter = PI
        wp_walk
        subst hPI
        refine wpAny_pyIter_list hl1 ?_
        refine wpAny_bind (wpAny_runValue ?_)
        have hlS : l < s.heap.objs.size := Heap.lt_size hol
        have hh3 : A.in1.in1.in1.handled = none := by simp [hh]
        have hneI : l ≠ (s.heap.push (setObj0 w)).objs.size := by
          rw [Heap.size_push]
          exact Nat.ne_of_lt (Nat.lt_succ_of_lt hlS)
        have hSf : s.heap.objs.size ∉ [(s.heap.push (setObj0 w)).objs.size, l] := by
          rw [Heap.size_push]
          simp only [List.mem_cons, List.mem_singleton, List.not_mem_nil, or_false, not_or]
          exact ⟨Nat.ne_of_lt (Nat.lt_succ_self _), Nat.ne_of_gt hlS⟩
        have hval : ∀ (i : Nat) (v : Value), items[i]? = some v → ∃ x t, xs[i]? = some x ∧ v = .str x t := fun i v hv => strs_at hi i v (by rw [Array.getElem?_toList]; exact hv)
        refine set_update_strs ((Walks.list hh3 _ l hneI items).toS) s.heap.objs.size hSf (T := "set") xs hsz hval hb (!w.params.followText "set-order") (items.size - 0) 0 _ (#[], 0, freshT w) [] (by omega) (Nat.zero_le _)
          ⟨⟨_, Heap.get?_push_size _ rfl, rfl, rfl⟩, (hl1.push _)⟩ (Heap.get?_push_of_some _ at0) (TxOk.nil (by rfl)) List.nodup_nil List.Pairwise.nil rfl (fun y => by simp) (Nat.le_refl _) ?_
        intro s' D m hm hS' F' nd' ris' led' mem' len'
        obtain ⟨h', g', d', tk', os'⟩ := s'
        have eg : g' = s.gens := hm.gens
        have ed : d' = s.drawn := hm.drawn
        have eo : os' = s.os := hm.os
        subst eg
        subst ed
        subst eo
        show wpAny _ _ _ _ _ _
        refine wpAny_pure ?_
        show wpAny _ _ (ret Value.none) _ _ _
        refine wpAny_pure ⟨rfl, h', tk', D, m, rfl, hS', F', nd', mem', len', ris', led', fun b o e => ?_⟩
        have hlt := Heap.lt_size e
        have hb1 : b ≠ s.heap.objs.size := Nat.ne_of_lt hlt
        have hb2 : b ≠ (s.heap.push (setObj0 w)).objs.size := by
          rw [Heap.size_push]
          exact Nat.ne_of_lt (Nat.lt_succ_of_lt hlt)
        exact hm.heap b o (by simp only [List.mem_cons, List.mem_singleton, List.not_mem_nil, or_false, not_or]; exact ⟨hb1, hb2⟩) (Heap.get?_push_of_some _ (Heap.get?_push_of_some _ e))
      · cases r₂ with
        | error e => exact hr₂
        | ok fl₂ =>
          cases fl₂ with
          | ret r =>
            obtain ⟨rfl, h', tk, D, m, rfl, g1, g2, g6, g7, g8, g3, g4, g5⟩ := hr₂
            repeat (any_goals (first | assumption | wp_step))
            exact h _ _ D m g1 g2 g3 g4 g6 g7 g8 g5
          | _ => exact hr₂.elim
    | _ => exact hr.elim
end
section
variable {X : Cx}
def rSetL (P : Program) (w : World) (K : PySem.W.Frag) : List V → Hp → VK → Prop := fun vs H Q => ∃ (a : Addr) (xs : List Str), vs = [.ref a] ∧ SqL K H a (xs.map V.str) ∧ xs.length < 64 ∧
  ∀ (p : Addr) (m : List Str), H p = none → m.Nodup → (∀ y, y ∈ m ↔ y ∈ xs) → m.length ≤ xs.length → Q (.ref p) (upd H p (SetTx P w p m))
theorem cr_setL (hc : X.calm = true) : CallR X (.type "set") (rSetL X.prog X.w X.K) := by
  intro pins s σ H vs us Q I r h
  obtain ⟨a, xs, rfl, hs, len, q⟩ := h
  obtain rfl := Vals.ref1 r
  obtain ⟨its, rv, hl, _⟩ := I.list hs
  refine call_setL (I.ok.hd hc) hl.isList (by exact rv.strs) (Nat.lt_of_lt_of_le len (by unfold scanBound; decide)) fun h' tk D m g1 g2 g3 g4 nd mem le k => ?_
  have w1 : ∃ D, h'.get? s.heap.objs.size = some (sObj "set" D) ∧ TxOk X.prog X.w D m ∧ Ris D.2.2.place.toList ∧ D.2.2.led = (!X.w.params.followText "set-order") := ⟨D, g1, g2, g3, g4⟩
  have hn : H s.heap.objs.size = none := I.hok.fresh (Nat.le_refl _)
  exact ⟨.ref _, upd H s.heap.objs.size (SetTx X.prog X.w s.heap.objs.size m), I.laid k (Nat.le_refl _) ⟨w1, ⟨_, g1⟩, fun _ _ ⟨D, e, r⟩ st => ⟨D, st _ e, r⟩⟩, rfl, q _ m hn nd mem le⟩
end
end SetQ

namespace Lb
open PySem
theorem lt_list : ∀ (a b : List Nat), a < b ∨ a = b ∨ b < a
  | [], [] => .inr (.inl rfl)
  | [], _ :: _ => .inl (by simp)
  | _ :: _, [] => .inr (.inr (by simp))
  | c :: a, d :: b => by
    rcases Nat.lt_trichotomy c d with q | q | q
    · exact .inl (List.cons_lt_cons_iff.mpr (.inl q))
    · subst q
      rcases lt_list a b with k | k | k
      · exact .inl (List.cons_lt_cons_iff.mpr (.inr ⟨rfl, k⟩))
      · exact .inr (.inl (by rw [k]))
      · exact .inr (.inr (List.cons_lt_cons_iff.mpr (.inr ⟨rfl, k⟩)))
    · exact .inr (.inr (List.cons_lt_cons_iff.mpr (.inl q)))
theorem lt_or {x y : Str} : x.cps.toList < y.cps.toList ∨ x = y ∨ y.cps.toList < x.cps.toList := by
  rcases lt_list x.cps.toList y.cps.toList with h | h | h
  · exact .inl h
  · exact .inr (.inl (Str.ext' (Array.toList_inj.mp h)))
  · exact .inr (.inr h)
end Lb
namespace SetQ
theorem both {α : Type} {a b : α} : ∀ {l : List α}, l.Nodup → [a, b].Sublist l → [b, a].Sublist l → False
  | [], _, h, _ => by cases h
  | c :: l, nd, h, k => by
    obtain ⟨n1, n2⟩ := List.nodup_cons.mp nd
    cases h with
    | cons _ h =>
      cases k with
      | cons _ k => exact both n2 h k
      | cons_cons _ k => exact n1 (h.subset (List.mem_cons_of_mem _ List.mem_cons_self))
    | cons_cons _ h =>
      cases k with
      | cons _ k => exact n1 (k.subset (List.mem_cons_of_mem _ List.mem_cons_self))
      | cons_cons _ k => exact n1 (h.subset List.mem_cons_self)
end SetQ
namespace SetQ
open PySem PySem.Spec PyProof.Rows L2
/-! ### sorted(xs, key=len), xs a list of texts -/
def lenLe (x y : Str) : Bool := decide (x.length ≤ y.length)
def lenSort (xs : List Str) : List Str := xs.mergeSort lenLe
/-- the word order -/
def Bef (x y : Str) : Prop := x.length < y.length ∨ (x.length = y.length ∧ x.cps.toList < y.cps.toList)
theorem lenSort_perm (xs : List Str) : (lenSort xs).Perm xs := List.mergeSort_perm xs lenLe
theorem sortedS_pair : ∀ {ws : List Str}, sortedS ws = true → ws.Pairwise fun x y => ¬ y.cps.toList < x.cps.toList
  | [], _ => .nil
  | [x], _ => List.pairwise_singleton ..
  | x :: y :: r, h => by
    have h' : (!ltCps y.cps.toList x.cps.toList && risingS y r) = true := h
    rw [Bool.and_eq_true] at h'
    have ih := sortedS_pair (ws := y :: r) h'.2
    have yx : ¬ y.cps.toList < x.cps.toList := by
      have e := h'.1
      rw [ltCps_eq] at e
      intro z
      rw [decide_eq_true z] at e
      cases e
    refine List.pairwise_cons.mpr ⟨fun z hz => ?_, ih⟩
    rcases List.mem_cons.mp hz with rfl | hz
    · exact yx
    · have yz := (List.pairwise_cons.mp ih).1 z hz
      exact fun q => yx (List.lt_of_le_of_lt (List.not_lt.mp yz) q)
theorem lenSort_bef {ws : List Str} (s : sortedS ws = true) (nd : ws.Nodup) : (lenSort ws).Pairwise Bef := by
  have tr : ∀ a b c : Str, lenLe a b = true → lenLe b c = true → lenLe a c = true := fun a b c h1 h2 => decide_eq_true (Nat.le_trans (of_decide_eq_true h1) (of_decide_eq_true h2))
  have tot : ∀ a b : Str, (lenLe a b || lenLe b a) = true := fun a b => by
    rw [Bool.or_eq_true]
    rcases Nat.le_total a.length b.length with h | h
    · exact .inl (decide_eq_true h)
    · exact .inr (decide_eq_true h)
  have by_len := List.pairwise_mergeSort (le := lenLe) tr tot ws
  have nd' : (lenSort ws).Nodup := (lenSort_perm ws).nodup_iff.mpr nd
  have srt := sortedS_pair s
  refine List.pairwise_iff_forall_sublist.mpr fun {a b} hab => ?_
  have le : a.length ≤ b.length := of_decide_eq_true (List.pairwise_iff_forall_sublist.mp by_len hab)
  rcases Nat.lt_or_ge a.length b.length with h | h
  · exact .inl h
  refine .inr ⟨Nat.le_antisymm le h, ?_⟩
  have ne : a ≠ b := List.pairwise_iff_forall_sublist.mp nd' hab
  have ma : a ∈ ws := (lenSort_perm ws).mem_iff.mp (hab.subset List.mem_cons_self)
  have mb : b ∈ ws := (lenSort_perm ws).mem_iff.mp (hab.subset (List.mem_cons_of_mem _ List.mem_cons_self))
  have ln : ∀ {x y : Str}, ¬ y.cps.toList < x.cps.toList → x ≠ y → x.cps.toList < y.cps.toList := fun {x y} h ne => by
    rcases Lb.lt_or (x := x) (y := y) with q | q | q
    · exact q
    · exact absurd q ne
    · exact absurd q h
  have two : ∀ (l : List Str), a ∈ l → b ∈ l → [a, b].Sublist l ∨ [b, a].Sublist l := by
    intro l
    induction l with
    | nil => intro h _; cases h
    | cons c l ih =>
      intro h1 h2
      rcases List.mem_cons.mp h1 with e1 | h1
      · rcases List.mem_cons.mp h2 with e2 | h2
        · exact absurd (e1.trans e2.symm) ne
        · rw [← e1]
          exact .inl (List.Sublist.cons_cons a (List.singleton_sublist.mpr h2))
      · rcases List.mem_cons.mp h2 with e2 | h2
        · rw [← e2]
          exact .inr (List.Sublist.cons_cons b (List.singleton_sublist.mpr h1))
        · exact (ih h1 h2).imp (·.cons _) (·.cons _)
  rcases two ws ma mb with q | q
  · exact ln (List.pairwise_iff_forall_sublist.mp srt q) ne
  · have back : [b, a].Sublist (lenSort ws) := List.pair_sublist_mergeSort tr tot (decide_eq_true h) q
    -- both ways: then one of the two stands twice
    exact (both nd' hab back).elim
def rSortLen (K : PySem.W.Frag) : List V → Hp → VK → Prop := fun vs H Q => ∃ (a : Addr) (xs : List Str), vs = [V.ref a] ∧ SqL K H a (xs.map V.str) ∧ (∀ x ∈ xs, x.length ≤ sizeLine) ∧ ∀ p, H p = none → Q (.ref p) (upd H p (.lst ((lenSort xs).map V.str)))
theorem each_of_strs : ∀ {us : List Value} {xs : List Str}, StrsAre us xs → PySem.W.EachIs (fun v x => ∃ t, v = Value.str x t) us xs
  | _, _, .nil => .nil
  | _, _, .cons x t h => .cons ⟨t, rfl⟩ (each_of_strs h)
theorem vals_of_each : ∀ {us : List Value} {xs : List Str}, PySem.W.EachIs (fun v x => ∃ t, v = Value.str x t) us xs → Vals (xs.map V.str) us
  | _, _, .nil => .nil
  | _, _, .cons h r => .cons h (vals_of_each r)
section
variable {X : Cx}
theorem run_sortLen {pins : List (Addr × Obj)} {s : Shared} {σ : L2.St} {H : Hp} {a : Addr} {xs : List Str} {Q : VK} (hu : X.A.units + 64 < cLine) (I : Inv X pins σ H s) (hs : SqL X.K H a (xs.map V.str)) (hx : ∀ x ∈ xs, x.length ≤ sizeLine)
    (q : ∀ p, H p = none → Q (.ref p) (upd H p (.lst ((lenSort xs).map V.str)))) : wpAny (model X.prog X.w) X.A (call (.builtin "sorted") [.ref a] [(Str.ofString "key", .builtin "len")]) (EP X pins σ Q) X.xe s := by
  obtain ⟨its, rv, hl, hz⟩ := I.list hs
  have hz' : xs.length ≤ sizeLine := by
    rw [List.length_map] at hz
    exact hz
  refine PySem.W.sorted_key_data (b := false) (R := fun v x => ∃ t, v = Value.str x t) (bs := xs) (fun x : Str => PyData.int ((x.length : Nat) : Int)) hl.isList (each_of_strs rv.strs) (PySem.W.AllAlike.of fun _ _ => by simp [PySem.W.alike]) (.inr fun d hd => ?_) hz' (fun x _ => ?_) (ksk_s1 _ _) (fun _ => ksk_l1 _ _) (fun _ => ksk_t4 _ _)
    (fun v x ⟨t, e⟩ m h tk _ => ?_) fun out c h' tk keep fresh at_ len each => ?_
  · obtain ⟨x, _, rfl⟩ := List.mem_map.mp hd
    exact ⟨fun z => (by cases z), fun ys z => (by cases z)⟩
  · show X.A.units + 2 + PyData.depth (.int _) < cLine
    have : PyData.depth (.int ((x.length : Nat) : Int)) = 0 := by simp [PyData.depth]
    omega
  · subst e
    have := hx x m
    have b := line63
    exact len_str (by omega) ⟨h, _, rfl, fun _ _ e => e, .int _ _⟩
  · rw [PySem.W.dataLe_int] at each
    have e : xs.mergeSort (fun a b : Str => decide (((a.length : Nat) : Int) ≤ ((b.length : Nat) : Int))) = lenSort xs := by
      unfold lenSort
      congr 1
      funext a b
      unfold lenLe
      simp only [Int.ofNat_le]
    rw [e] at each
    refine ⟨.ref (s.heap.objs.size + 1), upd H (s.heap.objs.size + 1) (.lst ((lenSort xs).map V.str)), I.laid keep (Nat.le_succ _) ⟨?_, out, c, vals_of_each each, at_⟩, rfl, q _ (I.hok.fresh (Nat.le_succ _))⟩
    rw [List.length_map, (lenSort_perm xs).length_eq]
    exact hz'
def tSortLen (K : PySem.W.Frag) (t : TA) : TE := fun σ H Q => t σ H fun vs H1 => rSortLen K vs H1 Q
theorem pe_sortLen {e : Expr} {t : TA} {p p2 kp pos : Pos} (hu : X.A.units + 64 < cLine) (hg : Gl X "sorted") (hm : X.mg "sorted" = none) (hgl : Gl X "len") (hml : X.mg "len" = none) (he : PA X [e] t)
    (hst : backTo pos (starEach [e] X.env) = (false, eval e X.env) :: backTo pos (starEach [] X.env) := by rfl) (hpl : (backTo pos (starEach [e] X.env)).any (·.1) = false := by rfl) :
    PE X (.Call (.Name (Str.ofString "sorted") p) [e] [⟨some (Str.ofString "key"), .Name (Str.ofString "len") p2, kp⟩] pos) (tSortLen X.K t) := by
  refine ⟨fun pins s σ H Q I h => ?_⟩
  refine wpAny_Call_Name_kw (ld_blt I hg hm (show bootBuiltins (Str.ofString "sorted") = some (.builtin "sorted") by decide +kernel) ?_ (by decide) (by decide))
  refine PyProof.Rows.callWith_kw (thn (he.run pos pins s σ H _ I h) fun us s1 ⟨vs, H1, I1, r1, q1⟩ => ?_) hst hpl (by rfl) (by rfl)
  show wpAny _ _ (evalAll ((do let v ← eval (.Name (Str.ofString "len") p2) X.env; standAt pos; pure v) :: [])) _ _ s1
  refine wpAny_evalAll_cons (wpAny_bind (ld_blt I1 hgl hml PySem.boot_len (wpAny_bind (wpAny_standAt (wpAny_pure (wpAny_evalAll_nil ?_)))) (by decide) (by decide)))
  obtain ⟨a, xs, rfl, hs, hx, q⟩ := q1
  obtain rfl := Vals.ref1 r1
  exact run_sortLen hu I1 hs hx q
end
end SetQ

namespace MinQ
open PySem PySem.Spec PyProof.Rows L2
/-! ### min(xs, key=f, default=None), f(x) the pair (len(x), x), xs a list of texts -/
def kLt (x y : Str) : Bool := if x.length = y.length then decide (x.cps.toList < y.cps.toList) else decide (x.length < y.length)
def btS (xs : List Str) (i j : Nat) : Bool := match xs[i]?, xs[j]? with
  | some x, some y => kLt x y
  | _, _ => false
theorem btS_at {xs : List Str} {i j : Nat} {x y : Str} (h : xs[i]? = some x) (k : xs[j]? = some y) : btS xs i j = kLt x y := by
  unfold btS
  rw [h, k]
/-- what is wanted of the key -/
def spKey : Sp := fun vs _ Q _ => ∃ x : Str, vs = [.str x] ∧ x.length ≤ 1000000 ∧ ∀ (p : Addr) (H' : Hp), H' p = some (.tup [.int ((x.length : Nat) : Int), .str x]) → Q (.ref p) H'
/-- all but the frames' own slots stands -/
structure KeepF (fs : List Addr) (s0 s : Shared) : Prop where
  keep : ∀ b o, s0.heap.get? b = some o → b ∉ fs → s.heap.get? b = some o
  slot : ∀ b o, s0.heap.get? b = some o → b ∈ fs → ∃ sl, s.heap.get? b = some { o with slots := sl }
  os : s.os = s0.os
  bare : AllBare s.gens
theorem KeepF.trans {fs : List Addr} {s0 s1 s2 : Shared} (h : KeepF fs s0 s1) (k : KeepF fs s1 s2) : KeepF fs s0 s2 where
  keep := fun b o e n => k.keep b o (h.keep b o e n) n
  slot := fun b o e m => by
    obtain ⟨sl, q⟩ := h.slot b o e m
    obtain ⟨sl2, q2⟩ := k.slot b _ q m
    exact ⟨sl2, q2⟩
  os := k.os.trans h.os
  bare := k.bare
theorem KeepF.of_un {fs : List Addr} {H' : Hp} {s s' : Shared} (u : Un fs [] (fun _ => none) H' s.heap s'.heap) (o : s'.os = s.os) (b : AllBare s'.gens) : KeepF fs s s' :=
  ⟨fun b o e n => u.keep b o e rfl n List.not_mem_nil, fun b o e m => u.slot b o e rfl m List.not_mem_nil, o, b⟩
section
variable {X : Cx} {pins : List (Addr × Obj)} {s s' s0 : Shared} {σ : L2.St} {H : Hp}
theorem KeepF.inv (I : Inv X pins σ H s) (k : KeepF (frs X.stack) s s') : Inv X pins σ H s' := by
  refine I.call' (ch := []) k.os ⟨fun b o e n hb _ => k.keep b o e hb, fun b o e n hb _ => k.slot b o e hb, fun b o e n _ => n, fun b o e _ => ?_, fun b xs e => e, fun b o u e => e, fun b ps e => ⟨#[], by rw [Array.append_empty]; exact e⟩⟩ (fun a o e => ?_) k.bare (fun b z => absurd z List.not_mem_nil)
  · by_cases hb : b ∈ frs X.stack
    · obtain ⟨sl, q⟩ := k.slot b o e hb
      exact ⟨_, q⟩
    · exact ⟨_, k.keep b o e hb⟩
  · refine (I.hok a o e).stay (fun b u hb q => k.keep b u q fun z => ?_) (fun _ q => q) fun _ _ q => q
    have free := I.stkFree b z
    rcases hb with hb | hb
    · rw [hb, e] at free
      cases free
    · rw [hb] at free
      cases free
theorem KeepF.env {A : Around} (I : Inv X pins σ H s0) (k : KeepF (frs X.stack) s0 s) (hsz : s0.heap.objs.size ≤ s.heap.objs.size) (hf : A.frames = some X.stack) : Env0 X.prog X.w X.K X.mg X.base A X.stack s (fun _ => none) where
  frames := hf
  mod := I.ok.mod
  bs := fun b o e => ⟨k.keep b o (I.bk b o e) fun z => (by
    have := (I.stack.mem z).1
    rw [e] at this
    cases this), rfl⟩
  bsz := Nat.le_trans I.ok.bsz (Nat.le_trans I.sz hsz)
  funs := I.stack.of_keeps fun b o e _ => by
    by_cases hb : b ∈ frs X.stack
    · obtain ⟨sl, q⟩ := k.slot b o e hb
      exact ⟨_, q, rfl⟩
    · exact ⟨_, k.keep b o e hb, rfl⟩
  frf := fun _ _ => rfl
  hok := fun a o e => nomatch e
  bare := k.bare
/-- the key's pair at t -/
def KeyAt (h : Heap) (t : Addr) (x : Str) : Prop := ∃ u v : Tok, IsTup h t #[.int ((x.length : Nat) : Int) u, .str x v]
def VKey (fs : List Addr) (n : Nat) (xs : List Str) (i : Nat) (ki : Value) (s : Shared) : Prop := ∃ (t : Addr) (x : Str), ki = .ref t ∧ xs[i]? = some x ∧ t ∉ [n + 1, n] ∧ t ∉ fs ∧ KeyAt s.heap t x
theorem key_run {k : Nat} {f : Addr} {fd : FuncData} {its : Array Value} {xs : List Str} {ax : Addr} (F : FnOk X.prog X.w X.K X.mg X.base CX0 k f fd ["word"] spKey) (hb : Binds X.K fd ["word"] []) (hr : Room k X.A.in1) (hu : X.A.in1.units < cLine)
    (I : Inv X pins σ H s0) (hi : StrsAre its.toList xs) (hx : ∀ x ∈ xs, x.length ≤ 1000000) (hax : ax ∉ frs X.stack) :
    KeyRun X.prog X.w X.A.in1 (.ref f) .Lt (s0.heap.objs.size + 1) [s0.heap.objs.size] (fun a b => b = a) its.size (fun i v => its[i]? = some v) (fun i s => s.heap.IsListIter s0.heap.objs.size ax i ∧ s.heap.IsList ax its) (KeepF (frs X.stack) s0)
      (VKey (frs X.stack) s0.heap.objs.size xs) (btS xs) := by
  have fsOld : ∀ b ∈ frs X.stack, b < s0.heap.objs.size := fun b hb => by
    obtain ⟨_, o, ho, _⟩ := I.stack.mem hb
    exact Heap.lt_size ho
  refine ⟨fun s s' J m => ⟨fun b o e n => ?_, fun b o e hb => ?_, m.os.trans J.os, ?_⟩, fun i ki s s' ⟨t, x, e, ex, n1, n2, u, v, ob, ho, r⟩ m => ⟨t, x, e, ex, n1, n2, u, v, ob, m.heap t ob n1 ho, r⟩, fun i v s o Q E hi' hP J hst hS q => ?_, fun i j ki kj s Q E J hVi hVj q => ?_⟩
  · have lt := Heap.lt_size e
    exact m.heap b o (by simp only [List.mem_cons, List.not_mem_nil, or_false, not_or]; exact ⟨Nat.ne_of_lt (Nat.lt_succ_of_lt lt), Nat.ne_of_lt lt⟩) (J.keep b o e n)
  · have lt := Heap.lt_size e
    obtain ⟨sl, q⟩ := J.slot b o e hb
    exact ⟨sl, m.heap b _ (by simp only [List.mem_cons, List.not_mem_nil, or_false, not_or]; exact ⟨Nat.ne_of_lt (Nat.lt_succ_of_lt lt), Nat.ne_of_lt lt⟩) q⟩
  · have eg : s'.gens = s.gens := m.gens
    rw [eg]
    exact J.bare
  · obtain ⟨x, t0, ex, ev⟩ := SetQ.strs_at hi i v (by rw [Array.getElem?_toList]; exact hP)
    subst ev
    have hsz : s0.heap.objs.size ≤ s.heap.objs.size := Nat.le_trans (Nat.le_succ _) (Nat.le_of_lt (Heap.lt_size hS))
    have lx := hx x (List.mem_of_getElem? ex)
    have r2 : Vals [V.str x] [.str x t0] := .cons ⟨t0, rfl⟩ .nil
    have en : Env0 X.prog X.w X.K X.mg X.base X.A.in1 X.stack s (fun _ => none) := J.env (A := X.A.in1) I hsz (by exact I.ok.frames)
    have kin : X.K.In s.heap := I.ok.mod.kin.keeps fun b o e => (en.bs b o e).1
    refine wpAny_call (codeAny_mono (F.run X.A.in1 X.stack s (fun _ => none) ⟨[.str x t0], []⟩ [.str x t0] [V.str x] (fun v H' => ∃ p, v = .ref p ∧ H' p = some (.tup [.int ((x.length : Nat) : Int), .str x])) (fun _ _ _ => False) hr en (hb s [.str x t0] kin rfl) r2 ⟨x, rfl, lx, fun p H' e => ⟨p, rfl, e⟩⟩) fun r s' hq => ?_)
    cases r with
    | error e => exact (hq : False).elim
    | ok fl =>
      cases fl with
      | ret u =>
        obtain ⟨v, H', os, bare, un, hok, rv, p, rfl, hp⟩ := (hq : CE X.stack X.prog X.w _ s _ u s')
        obtain rfl : u = .ref p := rv
        have kf := KeepF.of_un un os bare
        have fresh : ∀ o, s.heap.get? p ≠ some o := fun o e => by
          have := un.free p o e rfl List.not_mem_nil
          rw [hp] at this
          cases this
        have pS : p ≠ s0.heap.objs.size + 1 := fun e => fresh o (by rw [e]; exact hS)
        have pI : p ≠ s0.heap.objs.size := fun e => by
          obtain ⟨ob, ho, _⟩ := hst.1
          exact fresh ob (by rw [e]; exact ho)
        have pF : p ∉ frs X.stack := fun z => by
          obtain ⟨_, ob, ho, _⟩ := en.funs.mem z
          exact fresh ob ho
        have nS : s0.heap.objs.size + 1 ∉ frs X.stack := fun z => absurd (fsOld _ z) (Nat.not_lt.mpr (Nat.le_succ _))
        have nI : s0.heap.objs.size ∉ frs X.stack := fun z => absurd (fsOld _ z) (Nat.lt_irrefl _)
        refine q (.ref p) s' (J.trans kf) ⟨hst.1.at fun o e => kf.keep _ o e nI, hst.2.at fun o e => kf.keep _ o e hax⟩ (kf.keep _ o hS nS) ⟨p, x, rfl, ex, ?_, pF, ?_⟩ fun j kj ⟨t, y, e, ey, n1, n2, a1, a2, ob, ho, rr⟩ => ⟨t, y, e, ey, n1, n2, a1, a2, ob, kf.keep t ob ho n2, rr⟩
        · simp only [List.mem_cons, List.not_mem_nil, or_false, not_or]
          exact ⟨pS, pI⟩
        · obtain ⟨_, us, rr, it⟩ := hok p _ hp
          obtain ⟨x1, x2, rfl, ⟨t1, rfl⟩, ⟨t2, rfl⟩⟩ := vals2 rr
          exact ⟨t1, t2, it⟩
      | next => exact False.elim hq
      | brk => exact False.elim hq
      | cont => exact False.elim hq
  · obtain ⟨t, x, rfl, ex, _, _, t1, t2, p1⟩ := hVi
    obtain ⟨t', y, rfl, ey, _, _, t3, t4, p2⟩ := hVj
    rw [btS_at ex ey] at q
    have R := Ob.RcOp.tuples_lt (A := X.A.in1) (s := s) (e := fun j => if j = 0 then decide (x.length = y.length) else decide (x = y)) (r := fun j => if j = 0 then decide (x.length < y.length) else decide (x.cps.toList < y.cps.toList)) p1 p2 hu (fun j h1 h2 => by
      match j, h1, h2 with
      | 0, _, _ =>
        have z : (((x.length : Nat) : Int) == ((y.length : Nat) : Int)) = decide (x.length = y.length) := by
          by_cases q : x.length = y.length
          · rw [decide_eq_true q, q]
            exact beq_iff_eq.mpr rfl
          · rw [decide_eq_false q]
            exact beq_eq_false_iff_ne.mpr fun z => q (Int.ofNat_inj.mp z)
        show SeqAt.EqAt _ _ (.int _ t1) (.int _ t3) (decide (x.length = y.length))
        rw [← z]
        exact SeqAt.EqAt.int_int _ _ _ _
      | 1, _, _ =>
        have z : (x == y) = decide (x = y) := by
          by_cases e : x = y
          · rw [decide_eq_true e]; exact beq_iff_eq.mpr e
          · rw [decide_eq_false e]; exact beq_eq_false_iff_ne.mpr e
        show SeqAt.EqAt _ _ (.str x t2) (.str y t4) (decide (x = y))
        rw [← z]
        exact SeqAt.EqAt.str_str _ _ _ _) (fun j h1 h2 _ => by
      match j, h1, h2 with
      | 0, _, _ =>
        have z : decide (x.length < y.length) = decide (((x.length : Nat) : Int) < ((y.length : Nat) : Int)) := by simp only [Int.ofNat_lt]
        show Ob.RcOp .Lt _ _ (.int _ t1) (.int _ t3) (decide (x.length < y.length))
        rw [z]
        exact Ob.RcOp.lt_int _ _ _ _
      | 1, _, _ => exact fun _ _ _ _ h => PyProof.Rows.lt_str h)
    have e : Ob.lexAt (fun j => if j = 0 then decide (x.length = y.length) else decide (x = y)) (fun j => if j = 0 then decide (x.length < y.length) else decide (x.cps.toList < y.cps.toList)) (decide (2 < 2)) 0 2 = kLt x y := by
      show (if decide (x.length = y.length) = true then (if decide (x = y) = true then decide (2 < 2) else decide (x.cps.toList < y.cps.toList)) else decide (x.length < y.length)) = _
      unfold kLt
      by_cases e1 : x.length = y.length
      · by_cases e2 : x = y
        · subst e2
          simp [List.lt_irrefl]
        · simp [e1, e2]
      · simp [e1]
    refine R _ _ _ _ ?_
    have e' := e
    rw [← e'] at q
    exact q
end
end MinQ

namespace MinQ
open PySem PySem.Spec PyProof.Rows L2
theorem kLt_true {x y : Str} : kLt x y = true ↔ x.length < y.length ∨ (x.length = y.length ∧ x.cps.toList < y.cps.toList) := by
  unfold kLt
  by_cases h : x.length = y.length
  · rw [if_pos h, decide_eq_true_iff]
    exact ⟨fun z => .inr ⟨h, z⟩, fun z => z.elim (fun q => absurd q (by omega)) (·.2)⟩
  · rw [if_neg h, decide_eq_true_iff]
    exact ⟨.inl, fun z => z.elim id fun q => absurd q.1 h⟩
theorem kLt_self (x : Str) : kLt x x = false := by
  cases h : kLt x x with
  | false => rfl
  | true =>
    rcases kLt_true.mp h with q | q
    · omega
    · exact absurd q.2 (List.lt_irrefl _)
theorem kLt_trans {x y z : Str} (h : kLt x y = true) (k : kLt y z = true) : kLt x z = true := by
  rw [kLt_true] at *
  rcases h with h | h <;> rcases k with k | k
  · exact .inl (by omega)
  · exact .inl (by omega)
  · exact .inl (by omega)
  · exact .inr ⟨by omega, List.lt_trans h.2 k.2⟩
theorem best_ok {xs : List Str} : ∀ j, j < xs.length → argBest (btS xs) j ≤ j ∧ ∀ i, i ≤ j → ∀ x y, xs[i]? = some x → xs[argBest (btS xs) j]? = some y → kLt x y = false
  | 0, _ => ⟨Nat.le_refl _, fun i hi x y hx hy => by
    have : i = 0 := by omega
    subst this
    have e : xs[0]? = some y := hy
    rw [hx] at e
    cases e
    exact kLt_self x⟩
  | j + 1, hj => by
    obtain ⟨h1, h2⟩ := best_ok (xs := xs) j (by omega)
    have lb : argBest (btS xs) j < xs.length := by omega
    have eb := List.getElem?_eq_getElem lb
    have ez := List.getElem?_eq_getElem hj
    show (if btS xs (j + 1) (argBest (btS xs) j) = true then j + 1 else argBest (btS xs) j) ≤ j + 1 ∧ ∀ i, i ≤ j + 1 → ∀ x y, xs[i]? = some x → xs[if btS xs (j + 1) (argBest (btS xs) j) = true then j + 1 else argBest (btS xs) j]? = some y → kLt x y = false
    cases hb : btS xs (j + 1) (argBest (btS xs) j) with
    | true =>
      rw [if_pos rfl]
      rw [btS_at ez eb] at hb
      refine ⟨Nat.le_refl _, fun i hi x y hx hy => ?_⟩
      rw [ez] at hy
      cases hy
      by_cases g : i = j + 1
      · subst g
        rw [ez] at hx
        cases hx
        exact kLt_self _
      · have := h2 i (by omega) x _ hx eb
        cases q : kLt x xs[j + 1] with
        | false => rfl
        | true =>
          rw [kLt_trans q hb] at this
          cases this
    | false =>
      rw [if_neg Bool.false_ne_true]
      rw [btS_at ez eb] at hb
      refine ⟨by omega, fun i hi x y hx hy => ?_⟩
      by_cases g : i = j + 1
      · subst g
        rw [ez] at hx
        rw [eb] at hy
        cases hx
        cases hy
        exact hb
      · exact h2 i (by omega) x y hx hy
theorem room_in1 {k : Nat} {A : Around} (r : Room (k + 1) A) : Room k A.in1 :=
  ⟨r.hd, by have := r.dp; show A.depth + 3 * k + 5 < _; omega, by have := r.un; show A.units + 1 + 16 * k + 200 < _; omega⟩
section
variable {X : Cx}
def rMinKey (K : PySem.W.Frag) (f : Addr) : List V → List V → Hp → VK → Prop := fun vs zs H Q => ∃ (a : Addr) (xs : List Str), vs = [V.ref a] ∧ zs = [.ref f, .non] ∧ SqL K H a (xs.map V.str) ∧ (∀ x ∈ xs, x.length ≤ 1000000) ∧
  (xs = [] → Q .non H) ∧ ∀ x ∈ xs, (∀ y ∈ xs, kLt y x = false) → Q (.str x) H
theorem cr_minKey {k : Nat} {f : Addr} {fd : FuncData} (F : FnOk X.prog X.w X.K X.mg X.base CX0 k f fd ["word"] spKey) (hb : Binds X.K fd ["word"] []) (hr : Room (k + 1) X.A) : CallRK X (.builtin "min") [Str.ofString "key", Str.ofString "default"] (rMinKey X.K f) := by
  intro pins s σ H vs zs us ws Q I r rz h
  obtain ⟨a, xs, rfl, rfl, hs, hx, q0, q1⟩ := h
  obtain rfl := Vals.ref1 r
  obtain ⟨w1, w2, rfl, e1, e2⟩ := vals2 rz
  obtain rfl : w1 = .ref f := e1
  obtain rfl : w2 = Value.none := e2
  obtain ⟨its, rv, hl, _⟩ := I.list hs
  have hi : StrsAre its.toArray.toList xs := by
    rw [List.toList_toArray]
    exact rv.strs
  have hlen : its.toArray.size = xs.length := by
    rw [← Array.length_toList]
    exact hi.length
  have hax : a ∉ frs X.stack := fun z => by
    rcases hs with e | ⟨o, _, _, hk, _⟩
    · have free := I.stkFree a z
      rcases e with e | ⟨o, e⟩ <;> · rw [e] at free; cases free
    · have n := (I.stack.mem z).1
      first
        | (rw [I.mod.kin a o hk] at n; cases n)
        | (have := I.mod.kin _ _ hk; rw [this] at n; cases n)
  have hr1 := room_in1 hr
  have hu : X.A.in1.units < cLine := by
    have := hr1.un
    omega
  refine call_min_walkKD ?_
  have hh : X.A.in1.in1.handled = none := hr.hd
  have hla : a < s.heap.objs.size := by
    obtain ⟨o, _, e, _⟩ := hl
    exact Heap.lt_size e
  refine wpAny_pyIter_list hl.isList ?_
  have esz : (s.heap.push { cls := .type "list_iterator", data := .fields #[.ref a, .int 0 0] }).objs.size = s.heap.objs.size + 1 := Heap.size_push ..
  refine ⟨s.heap.objs.size, [s.heap.objs.size, a], [s.heap.objs.size], _, its.toArray.size, _, _, KeepF (frs X.stack) s, VKey (frs X.stack) s.heap.objs.size xs, btS xs, rfl, (Walks.list (by exact hr.hd) s.heap.objs.size a (Nat.ne_of_lt hla) its.toArray).toS, ⟨⟨_, Heap.get?_push_size _ rfl, rfl, rfl⟩, hl.isList.push _⟩, ?_, ?_, ?_, ?_, ?_⟩
  rotate_left
  · show KeyRun _ _ _ _ _ (s.heap.push { cls := .type "list_iterator", data := .fields #[.ref a, .int 0 0] }).objs.size _ _ _ _ _ _ _ _
    rw [esz]
    exact key_run F hb hr1 hu I hi hx hax
  · exact ⟨fun b o e _ => Heap.get?_push_of_some _ e, fun b o e _ => ⟨o.slots, Heap.get?_push_of_some _ e⟩, rfl, I.bare⟩
  · intro hn s' J
    refine ⟨.non, H, J.inv I, rfl, q0 (List.length_eq_zero_iff.mp (by rw [← hlen]; exact hn))⟩
  · intro hn v s' hP J
    have hn' : its.toArray.size - 1 < xs.length := by omega
    obtain ⟨b1, b2⟩ := best_ok (xs := xs) _ hn'
    have hP' : its.toArray[argBest (btS xs) (its.toArray.size - 1)]? = some v := hP
    obtain ⟨x, t, ex, rfl⟩ := SetQ.strs_at hi _ v (by rw [Array.getElem?_toList]; exact hP')
    refine ⟨.str x, H, J.inv I, ⟨t, rfl⟩, q1 x (List.mem_of_getElem? ex) fun y hy => ?_⟩
    obtain ⟨i, hi', ey⟩ := List.getElem_of_mem hy
    exact b2 i (by omega) y x (by rw [List.getElem?_eq_getElem hi', ey]) ex
  · intro b hb
    show b < (s.heap.push { cls := .type "list_iterator", data := .fields #[.ref a, .int 0 0] }).objs.size
    rw [esz]
    rcases List.mem_cons.mp hb with e | hb
    · rw [e]
      exact Nat.lt_succ_self _
    · rw [List.mem_singleton.mp hb]
      exact Nat.lt_succ_of_lt hla
end
end MinQ

namespace Lb
open PySem PySem.Spec PyProof.Rows L2
/-! ### x[::-1] of a text -/
def revS (z : Str) : Str := ⟨(cs z).reverse.toArray⟩
theorem cs_revS (z : Str) : cs (revS z) = (cs z).reverse := rfl
theorem rev_step (z : Str) (u : Tok) : Txt.sliceBy z none none (-1, u) = revS z := by
  refine cs_ext ?_
  show (Txt.sliceBy z none none (-1, u)).cps.toList = _
  rw [PyProof.Rows.step_rev_list, cs_revS]
  refine List.ext_getElem ?_ fun i h1 h2 => ?_
  · rw [List.length_map, List.length_range, List.length_reverse, cs_len]
  · have hi : i < z.length := by
      rw [List.length_map, List.length_range] at h1
      exact h1
    rw [List.getElem_map, List.getElem_range, List.getElem_reverse]
    have hl : (cs z).length = z.length := cs_len z
    have hj : z.length - 1 - i < z.cps.size := by
      show _ < z.length
      omega
    show z.cps.getD (z.length - 1 - i) 0 = _
    rw [Array.getD, dif_pos hj]
    show z.cps[z.length - 1 - i] = z.cps.toList[(cs z).length - 1 - i]
    simp only [hl, Array.getElem_toList]
def tRevT (te : TE) : TE := fun σ H Q => te σ H fun x H1 => ∃ z : Str, x = .str z ∧ z.length ≤ sizeLine ∧ Q (.str (revS z)) H1
theorem pe_revT {X : Cx} {e : Expr} {te : TE} {k : Nat} {p1 p2 p3 pos : Pos} (he : PE X e te) : PE X (.Subscript e (.Slice none none (some (.UnaryOp .USub (.Constant (.int 1) k p1) p2)) p3) pos) (tRevT te) := by
  refine ⟨fun pins s σ H Q I h => ?_⟩
  refine Subscript_ (thn (he.run pins s σ H _ I h) fun v s1 ⟨x, H1, I1, r1, q1⟩ => ?_)
  obtain ⟨z, ex, hz, q⟩ := q1
  subst ex
  obtain ⟨t, rfl⟩ := r1
  have hst : PO X (some (.UnaryOp .USub (.Constant (.int 1) k p1) p2)) (tPart (tUn (rU fun i => .int (-i)) (tC (.int 1)))) := po_some (pe_un un_neg pe_int)
  refine wpAny_Slice (thn (po_none.run pins s1 σ H1 (fun o H2 => o = none ∧ H2 = H1) I1 ⟨rfl, rfl⟩) fun vl s2 ⟨l, H2, I2, pl, el, e2⟩ => ?_)
  subst el e2
  refine thn (po_none.run pins s2 σ H2 (fun o H3 => o = none ∧ H3 = H2) I2 ⟨rfl, rfl⟩) fun vu s3 ⟨u, H3, I3, pu, eu, e3⟩ => ?_
  subst eu e3
  refine thn (hst.run pins s3 σ H3 (fun o H4 => o = some (-1) ∧ H4 = H3) I3 ⟨1, rfl, -1, rfl, rfl, rfl⟩) fun vs s4 ⟨o, H4, I4, ps, eo, e4⟩ => ?_
  subst eo e4
  have I5 : Inv X pins σ H4 { s4 with heap := s4.heap.push { cls := .type "slice", data := .fields #[vl, vu, vs] } } := I4.kept (t' := s4.toks) fun b ob q => Heap.get?_push_of_some _ q
  cases pl
  cases pu
  cases ps with
  | int _ uk =>
  show wpAny (model X.prog X.w) X.A (subscriptTail e (.Slice none none (some (.UnaryOp .USub (.Constant (.int 1) k p1) p2)) p3) (.str z t) (.ref s4.heap.objs.size)) (EP X pins σ Q) X.xe { s4 with heap := s4.heap.push { cls := .type "slice", data := .fields #[.none, .none, .int (-1) uk] } }
  refine tail_any (ops := [.ref s4.heap.objs.size, .str z t]) (typeIs_str _ _ _) F.slot_str_getitem.lookup ?_ (by with_unfolding_all rfl)
  refine wpAny_getItem_str_slice (l := none) (u := none) (st := some (-1, uk)) ⟨_, Heap.get?_push_size _ rfl, rfl, rfl⟩ rfl ?_
  refine post_val_or_str (y := z) (z := ⟨((slicePicked z none none (some (-1, uk))).filterMap (z.cps[·]?)).toArray⟩) ?_
  have e := rev_step z uk
  unfold Txt.sliceBy at e
  rw [e]
  refine ⟨?_, fun t' k => ⟨.str (revS z), H4, I5.tok _, ⟨_, rfl⟩, q⟩⟩
  rw [← cs_len, cs_revS, List.length_reverse, cs_len]
  exact hz
end Lb


namespace EnS
open PySem PySem.Spec PyProof.Rows L2 SetQ
open PySem.W (dataLt alike dataLe)
/-! ### the order of pairs and arcs -/
def wkey (x : Str) : PyData := .tuple [.int ((x.length : Nat) : Int), .str x]
def pkey (i : Int) (x : Str) : PyData := .tuple [.int i, wkey x]
def akey (i : Int) (l x : Str) (j : Int) : PyData := .tuple [.int i, .str l, wkey x, .int j]
theorem alike_ii (i j : Int) : alike (.int i) (.int j) = true := by simp [alike]
theorem alike_ss (x y : Str) : alike (.str x) (.str y) = true := by simp [alike]
theorem alike_w (x y : Str) : alike (wkey x) (wkey y) = true := by simp [wkey, alike, PySem.W.alikeAll]
theorem eqv_ii (i j : Int) : PyData.eqv (.int i) (.int j) = true ↔ i = j := by simp [PyData.eqv]
theorem eqv_ss (x y : Str) : PyData.eqv (.str x) (.str y) = true ↔ x = y := by simp [PyData.eqv]
theorem eqv_w (x y : Str) : PyData.eqv (wkey x) (wkey y) = true ↔ x = y := by
  unfold wkey
  simp only [PyData.eqv, PyData.eqvAll, Bool.and_true, Bool.and_eq_true, beq_iff_eq]
  exact ⟨fun h => h.2, fun h => ⟨by rw [h], h⟩⟩
theorem lt_w (x y : Str) : dataLt (wkey x) (wkey y) = MinQ.kLt x y := by
  unfold wkey
  rw [PySem.W.dataLt_pair (alike_ii _ _) (alike_ss _ _), PySem.W.dataLt_int, PySem.W.dataLt_str]
  unfold MinQ.kLt
  by_cases h : x.length = y.length
  · rw [if_pos ((eqv_ii _ _).mpr (by rw [h])), if_pos h]
    by_cases e : x = y
    · subst e
      rw [if_pos ((eqv_ss _ _).mpr rfl)]
      exact (decide_eq_false (List.lt_irrefl _)).symm
    · rw [if_neg fun z => e ((eqv_ss _ _).mp z)]
  · rw [if_neg (fun z => h (by have := (eqv_ii _ _).mp z; omega)), if_neg h]
    exact decide_eq_decide.mpr (by omega)
theorem kTri {x y : Str} (h : MinQ.kLt x y = false) (ne : x ≠ y) : Bef y x := by
  refine Classical.byContradiction fun n => ?_
  have h1 : ¬ Bef x y := fun b => by
    rw [MinQ.kLt_true.mpr b] at h
    cases h
  unfold Bef at n h1
  have le : x.length = y.length := by omega
  have a : ¬ x.cps.toList < y.cps.toList := fun z => h1 (.inr ⟨le, z⟩)
  have b : ¬ y.cps.toList < x.cps.toList := fun z => n (.inr ⟨le.symm, z⟩)
  have e := List.le_antisymm (List.not_lt.mp b) (List.not_lt.mp a)
  refine ne ?_
  cases x with | mk p => cases y with | mk q =>
  have : p.toList = q.toList := e
  rw [Array.toList_inj.mp this]
/-- the pairs in their order -/
def PLt (e f : Int × Str) : Prop := e.1 < f.1 ∨ (e.1 = f.1 ∧ Bef e.2 f.2)
theorem le_pkey {e f : Int × Str} (h : (!dataLt (pkey f.1 f.2) (pkey e.1 e.2)) = true) (ne : e ≠ f) : PLt e f := by
  unfold pkey at h
  rw [PySem.W.dataLt_pair (alike_ii _ _) (alike_w _ _), PySem.W.dataLt_int, lt_w] at h
  by_cases hi : f.1 = e.1
  · rw [if_pos ((eqv_ii _ _).mpr hi)] at h
    by_cases hx : f.2 = e.2
    · exact (ne (Prod.ext hi.symm hx.symm)).elim
    · rw [if_neg fun z => hx ((eqv_w _ _).mp z)] at h
      refine .inr ⟨hi.symm, kTri ?_ hx⟩
      cases k : MinQ.kLt f.2 e.2 with
      | false => rfl
      | true =>
        rw [k] at h
        cases h
  · rw [if_neg fun z => hi ((eqv_ii _ _).mp z)] at h
    by_cases lt : f.1 < e.1
    · rw [decide_eq_true lt] at h
      cases h
    · exact .inl (by omega)
/-- the arcs in their order: state, letter, word, state -/
abbrev Arc := Int × Str × Str × Int
def ALt (e f : Arc) : Prop := e.1 < f.1 ∨ (e.1 = f.1 ∧ (e.2.1.cps.toList < f.2.1.cps.toList ∨ (e.2.1 = f.2.1 ∧ (Bef e.2.2.1 f.2.2.1 ∨ (e.2.2.1 = f.2.2.1 ∧ e.2.2.2 < f.2.2.2)))))
theorem le_akey {e f : Arc} (h : (!dataLt (akey f.1 f.2.1 f.2.2.1 f.2.2.2) (akey e.1 e.2.1 e.2.2.1 e.2.2.2)) = true) (ne : e ≠ f) : ALt e f := by
  unfold akey at h
  rw [PySem.W.dataLt_tuple, PySem.W.dataLt_cons (alike_ii _ _), PySem.W.dataLt_cons (alike_ss _ _), PySem.W.dataLt_cons (alike_w _ _), PySem.W.dataLt_cons (alike_ii _ _), PySem.W.dataLt_int, PySem.W.dataLt_int, PySem.W.dataLt_str, lt_w] at h
  by_cases hi : f.1 = e.1
  case neg =>
    rw [if_neg fun z => hi ((eqv_ii _ _).mp z)] at h
    by_cases lt : f.1 < e.1
    · rw [decide_eq_true lt] at h
      cases h
    · exact .inl (by omega)
  rw [if_pos ((eqv_ii _ _).mpr hi)] at h
  refine .inr ⟨hi.symm, ?_⟩
  by_cases hl : f.2.1 = e.2.1
  case neg =>
    rw [if_neg fun z => hl ((eqv_ss _ _).mp z)] at h
    refine .inl (Classical.byContradiction fun n => ?_)
    by_cases lt : f.2.1.cps.toList < e.2.1.cps.toList
    · rw [decide_eq_true lt] at h
      cases h
    · have q := List.le_antisymm (List.not_lt.mp n) (List.not_lt.mp lt)
      refine hl ?_
      generalize f.2.1 = x at q ⊢
      generalize e.2.1 = y at q ⊢
      cases x with | mk p => cases y with | mk r =>
      have : p.toList = r.toList := q
      rw [Array.toList_inj.mp this]
  rw [if_pos ((eqv_ss _ _).mpr hl)] at h
  refine .inr ⟨hl.symm, ?_⟩
  by_cases hx : f.2.2.1 = e.2.2.1
  case neg =>
    rw [if_neg fun z => hx ((eqv_w _ _).mp z)] at h
    refine .inl (kTri ?_ hx)
    cases k : MinQ.kLt f.2.2.1 e.2.2.1 with
    | false => rfl
    | true =>
      rw [k] at h
      cases h
  rw [if_pos ((eqv_w _ _).mpr hx)] at h
  refine .inr ⟨hx.symm, ?_⟩
  by_cases hj : f.2.2.2 = e.2.2.2
  · exact (ne (Prod.ext hi.symm (Prod.ext hl.symm (Prod.ext hx.symm hj.symm)))).elim
  · rw [if_neg fun z => hj ((eqv_ii _ _).mp z)] at h
    by_cases lt : f.2.2.2 < e.2.2.2
    · rw [decide_eq_true lt] at h
      cases h
    · omega
theorem sort_pair {α : Type} (key : α → PyData) (xs : List α) : (xs.mergeSort (dataLe false key)).Pairwise fun a b => (!dataLt (key b) (key a)) = true :=
  PySem.W.sort_pairwise (le := dataLe false key) (show PySem.W.TotalLe (dataLe false key) from PySem.W.sortLe_total _ false _) xs
theorem depth_pkey (i : Int) (x : Str) : (pkey i x).depth ≤ 16 := by
  simp [pkey, wkey, PyData.depth, PyData.depthAll]
theorem depth_akey (i : Int) (l x : Str) (j : Int) : (akey i l x j).depth ≤ 16 := by
  simp [akey, wkey, PyData.depth, PyData.depthAll]
theorem alike_pkey (i : Int) (x : Str) (j : Int) (y : Str) : alike (pkey i x) (pkey j y) = true := by
  simp [pkey, alike, PySem.W.alikeAll, alike_w]
theorem alike_akey (i : Int) (l x : Str) (j : Int) (i' : Int) (l' x' : Str) (j' : Int) : alike (akey i l x j) (akey i' l' x' j') = true := by
  simp [akey, alike, PySem.W.alikeAll, alike_w]
end EnS

namespace Lb
open PySem PySem.Spec PyProof.Rows L2
/-! ### a class with an own __init__(self, f, g): self.f = f; self.g = g -/
def sp_init2 (K : PySem.W.Frag) (f g : Str) : Sp := fun vs H Q _ => ∃ (a C : Addr) (v u : V), vs = [.ref a, v, u] ∧ OexC K C ∧ PySem.W.findIn K (.ref C) f = some none ∧ PySem.W.findIn K (.ref C) g = some none ∧ H a = some (exo a C none) ∧
  ∀ dx, H dx = none → dx ≠ a → Q .non (upd (upd (upd H dx (exd dx [(f, v)])) a (exo a C (some dx))) dx (exd dx [(g, u), (f, v)]))
/-- C(e1, e2): a new error, its fields f and g -/
def tErr2 (C : Addr) (f g : Str) (ta : TA) : L2.St → Hp → XK → Prop := fun σ H Q => ta σ H fun vs H1 => ∃ v u, vs = [v, u] ∧ ∀ d, H1 d = none → Q (.ref C) (some d) (upd H1 d (.xd [(g, u), (f, v)]))
theorem pmk_err2 {X : Cx} {CX : CXT} {e e' : Expr} {ta : TA} {x f g : Str} {C fI : Addr} {k : Nat} {fd : FuncData} {ps : List Str} {p pos : Pos} (E : ErrT X.K X.mg x C) (iC : PySem.W.findIn X.K (.ref C) "__init__" = some (some (.ref fI))) (tI : PySem.W.typeIn X.K (.ref fI) = some (.type "function"))
    (hno : PySem.W.findIn X.K (.ref C) f = some none) (hno' : PySem.W.findIn X.K (.ref C) g = some none) (F1 : FnOk X.prog X.w X.K X.mg X.base CX k fI fd ps (sp_init2 X.K f g)) (hr : Room (k + 1) X.A) (hb : Binds X.K fd ps []) (hx : Passes CX X (fun _ _ _ => False)) (ha : PA X [e, e'] ta) (hg : Gl X x := by rfl)
    (hdb : (x == ("__debug__" : Str)) = false := by decide) (he : starEach [e, e'] X.env = (false, eval e X.env) :: starEach [e'] X.env := by rfl) (hpl : (backTo pos (starEach [e'] X.env)).any (·.1) = false := by rfl) :
    PMk X (.Call (.Name x p) [e, e'] [] pos) (tErr2 C f g ta) := by
  intro pins s σ H Q I h
  refine pmk_oex (dvs := []) E.o iC tI F1 hr hb .nil hx hg E.g (pa_weak ha) hdb he hpl pins s σ H Q I ⟨_, h, fun vs H1 z => ?_⟩
  obtain ⟨v, u, rfl, q⟩ := z
  refine ⟨by show 2 ≤ 1000; decide, fun a na => ⟨a, C, v, u, rfl, E.o, hno, hno', upd_same, fun dx nd ne => ?_⟩⟩
  have nd1 : H1 dx = none := by
    rw [upd_ne ne] at nd
    exact nd
  refine ⟨rfl, dx, [(g, u), (f, v)], by rw [upd_ne (Ne.symm ne), upd_same], upd_same, nd1, ?_⟩
  have e : upd (del (upd (upd (upd (upd H1 a (exo a C none)) dx (exd dx [(f, v)])) a (exo a C (some dx))) dx (exd dx [(g, u), (f, v)])) a) dx (.xd [(g, u), (f, v)]) = upd H1 dx (.xd [(g, u), (f, v)]) := by
    funext b
    by_cases b1 : b = dx
    · rw [b1, upd_same, upd_same]
    · rw [upd_ne b1, upd_ne b1]
      by_cases b2 : b = a
      · rw [b2, del_same, na]
      · rw [del_ne b2, upd_ne b1, upd_ne b2, upd_ne b1, upd_ne b2]
  rw [e]
  exact q dx nd1
/-- __init__(self, f, g): self.f = f; self.g = g -/
theorem ok_init2 {P : Program} {w : World} {K : PySem.W.Frag} {mg : Str → Option Value} {base : Heap} {x qual f g : Str} {st : Stmt} {fI : Addr} {fd : FuncData} {p0 p1 p2 p3 p4 p5 p6 p7 : Pos} {k : Nat} (F : Fun K x qual st fI fd) (S : FnScope ["self", f, g] ["self", f, g] (defScope st))
    (body : defBody st = [.Assign [.Attribute (.Name "self" p0) f p1] (.Name f p2) p3, .Assign [.Attribute (.Name "self" p4) g p5] (.Name g p6) p7]) (v0 : Vis (defScope st) "self" := by exact Or.inl rfl) (v1 : Vis (defScope st) f := by exact Or.inl rfl) (v2 : Vis (defScope st) g := by exact Or.inl rfl)
    (d1 : (f == ("__debug__" : Str)) = false := by decide) (d2 : (f == ("__classdict__" : Str)) = false := by decide) (d3 : (g == ("__debug__" : Str)) = false := by decide) (d4 : (g == ("__classdict__" : Str)) = false := by decide) :
    FnOk P w K mg base CX0 (k + 1) fI fd ["self", f, g] (sp_init2 K f g) := by
  refine F.ok S (fun vs H Q E h => ?_) (fun cdv A outer s H vs Q E hr h => ?_)
  · obtain ⟨a, C, v, u, rfl, _⟩ := h
    rfl
  · obtain ⟨a, C, v, u, rfl, T, no, no', e, q⟩ := h
    rw [body]
    refine ⟨_, pss_cons (ps_ost (pv 0 rfl v0) (pv 1 rfl v1 d1 d2)) (pss_one (ps_ost (pv 0 rfl v0) (pv 2 rfl v2 d3 d4))), v, rfl, .ref a, rfl, a, C, rfl, T, no, .inl ⟨e, fun dx n ne => ?_⟩⟩
    exact ⟨u, rfl, .ref a, rfl, a, C, rfl, T, no', .inr ⟨dx, [(f, v)], upd_same, by rw [upd_ne ne, upd_same], by show 1 ≤ 900; decide, q dx n ne⟩⟩
/-! ### C(e, .., k = v, ..), its error passed on -/
def tMakeKS (C : Addr) (n m : Nat) (sp : Sp) (gV : List V → List V → List V) (E : L2.St → XK) (t tk : TA) : TE := fun σ H Q => t σ H fun vs H1 => tk σ H1 fun zs H2 => vs.length = n ∧ zs.length = m ∧ ∀ x dx, H2 x = none → H2 dx = none → dx ≠ x →
  sp (gV (.ref x :: vs) zs) (upd (upd H2 dx (.own x)) x (.ins C dx [])) (fun v H3 => v = .non ∧ Q (.ref x) H3) (E σ)
section
variable {X : Cx} {CX : CXT} {k n : Nat} {f C : Addr} {fd : FuncData} {ps ks : List Str} {sp : Sp} {E : L2.St → XK} {x : Str} {p pos : Pos} {e : Expr} {es : List Expr} {kws : List Keyword} {t tk : TA} {g : List Value → List Value → List Value} {gV : List V → List V → List V}
theorem run_makeKS {pins : List (Addr × Obj)} {σ : L2.St} {H : Hp} {s : Shared} {Q : VK} {us ws : List Value} {vs zs : List V} (M : Mk X.K C f) (F : FnOk X.prog X.w X.K X.mg X.base CX k f fd ps sp) (hr : Room (k + 1) X.A) (hb : KBn X.K fd ps (n + 1) ks g gV) (hx : PassesAt CX X σ (E σ))
    (I : Inv X pins σ H s) (r : Vals vs us) (rz : Vals zs ws) (l1 : vs.length = n) (l2 : zs.length = ks.length)
    (h : ∀ x dx, H x = none → H dx = none → dx ≠ x → sp (gV (.ref x :: vs) zs) (upd (upd H dx (.own x)) x (.ins C dx [])) (fun v H2 => v = .non ∧ Q (.ref x) H2) (E σ)) :
    wpAny (model X.prog X.w) X.A (call (.ref C) us (ks.zip ws)) (EP X pins σ Q) X.xe s := by
  have hq := h (s.heap.objs.size + 1) s.heap.objs.size (I.hok.fresh (Nat.le_succ _)) (I.hok.fresh (Nat.le_refl _)) (Nat.ne_of_lt (Nat.lt_succ_self _))
  have I2 := Inv.made (C := C) I
  have r1 : Vals (V.ref (s.heap.objs.size + 1) :: vs) (Value.ref (s.heap.objs.size + 1) :: us) := .cons rfl r
  have r2 := hb.rel r1 rz
  have n1 : (Value.ref (s.heap.objs.size + 1) :: us).length = n + 1 := by
    rw [List.length_cons, ← r.length, l1]
  refine wpAny_call (make_map (f := f) I.kIn M.makes M.init (beq_iff_eq.mp M.fn) (codeAny_mono (F.run _ X.stack _ _ ⟨Value.ref (s.heap.objs.size + 1) :: us, ks.zip ws⟩ (g (Value.ref (s.heap.objs.size + 1) :: us) ws) _ _ (E σ) (hr.make C us (ks.zip ws))
    (I2.env0.make C us (ks.zip ws)) (hb.to _ (Value.ref (s.heap.objs.size + 1) :: us) ws I2.kIn n1 (rz.length.symm.trans l2)) r2 hq) fun r s' hq' => ?_))
  cases r with
  | error e => exact hx pins _ _ e s' I2 hq'
  | ok fl =>
    cases fl with
    | ret u =>
      obtain ⟨v, H', I3, rv, ev, q3⟩ := I2.after hq'
      subst ev
      exact ⟨rv, ⟨V.ref (s.heap.objs.size + 1), H', I3, rfl, q3⟩⟩
    | next => exact False.elim hq'
    | brk => exact False.elim hq'
    | cont => exact False.elim hq'
theorem pe_makeKS (M : Mk X.K C f) (F : FnOk X.prog X.w X.K X.mg X.base CX k f fd ps sp) (hr : Room (k + 1) X.A) (hg : Gl X x) (hm : X.mg x = some (.ref C)) (hb : KBn X.K fd ps (n + 1) ks g gV) (hx : ∀ σ, PassesAt CX X σ (E σ)) (ha : PA X (e :: es) t) (hkw : PK X kws tk)
    (hall : (backToKw pos (keywordEach kws X.env)).all (·.1.isSome) = true := by rfl) (hks : (backToKw pos (keywordEach kws X.env)).filterMap (·.1) = ks := by rfl) (hdb : (x == ("__debug__" : Str)) = false := by decide)
    (he : starEach (e :: es) X.env = (false, eval e X.env) :: starEach es X.env := by rfl) (hpl : ((backTo pos (starEach (e :: es) X.env)).any (·.1) || (backToKw pos (keywordEach kws X.env)).any (·.1.isNone)) = false := by rfl) :
    PE X (.Call (.Name x p) (e :: es) kws pos) (tMakeKS C n ks.length sp gV E t tk) := by
  refine ⟨fun pins s σ H Q I h => ?_⟩
  refine wpAny_Call_Name_kw (ld_glob I hg hm ?_ hdb)
  refine PySem.W.callWith_KW (h₀ := X.base) I.ok.mod.kin M.kp hall (thn (ha.run pos pins s σ H _ I h) fun us s1 ⟨vs, H1, I1, r, q⟩ => ?_) hpl he
  refine thn (hkw.run pos pins s1 σ H1 _ I1 q) fun ws s2 ⟨zs, H2, I2, rz, l1, l2, q2⟩ => ⟨I2.kIn, ?_⟩
  rw [hks]
  exact run_makeKS M F hr hb (hx σ) I2 r rz l1 l2 q2
end
end Lb

namespace Lb
open PySem PySem.Spec PyProof.Rows L2
def inR : V → Int → Int → Bool
  | .int i, lo, hi => decide (lo ≤ i) && decide (i ≤ hi)
  | _, _, _ => false
/-- an error of the class at C with that value, at any later heap -/
def Raised [Tabl] (H : Hp) (C : Addr) (v : V) (E : XK) : Prop := ∀ (d : Addr) (H1 H' : Hp), Same H H1 → H1 d = none → H' = upd H1 d (.xd [("value", v)]) → E (.ref C) (some d) H'
theorem Raised.same [Tabl] {H H1 : Hp} {C : Addr} {v : V} {E : XK} (r : Raised H C v E) (s : Same H H1) : Raised H1 C v E := fun d H2 H' s2 n e => r d H2 H' (s.trans s2) n e
/-- v is an alphabet, v is a word over the alphabet L -/
def AlphaV (v : V) : Prop := ∃ z, v = .str z ∧ IsAlpha z
def WordV (L v : V) (m : Nat) : Prop := ∃ z x, L = .str z ∧ v = .str x ∧ IsAlpha z ∧ Over z x ∧ x.length ≤ m
def plainV : V → Bool
  | .non => true
  | .bl _ => true
  | .int _ => true
  | .str _ => true
  | _ => false
/-- equal plain values, or two tuples, two lists with items that rel relates -/
def SameR (rel : Hp → V → V → Prop) (H : Hp) (x y : V) : Prop := (x = y ∧ plainV y = true) ∨ ∃ (p q : Addr) (xs ys : List V), x = .ref p ∧ y = .ref q ∧
  ((H p = some (.tup xs) ∧ H q = some (.tup ys)) ∨ (H p = some (.lst xs) ∧ H q = some (.lst ys))) ∧ xs.length = ys.length ∧ ys.length ≤ 1000000 ∧ ∀ (i : Nat) (x' y' : V), xs[i]? = some x' → ys[i]? = some y' → rel H x' y'
def SameD : Nat → Hp → V → V → Prop
  | 0 => SameR fun _ _ _ => False
  | n + 1 => SameR (SameD n)
/-- a plain value of at most n levels, apart from the store at a -/
def DeepR (a : Addr) (rel : Hp → V → Prop) (H : Hp) (v : V) : Prop := (plainV v = true ∧ (∀ x : Str, v = .str x → x.length ≤ 1000000) ∧ ∀ i : Int, v = .int i → i.natAbs < 2 ^ 13000) ∨
  ∃ (p : Addr) (xs : List V), v = .ref p ∧ p ≠ a ∧ (H p = some (.lst xs) ∨ H p = some (.tup xs)) ∧ xs.length ≤ 1000000 ∧ ∀ x ∈ xs, rel H x
def Deep (a : Addr) : Nat → Hp → V → Prop
  | 0 => DeepR a fun _ _ => False
  | n + 1 => DeepR a (Deep a n)
theorem Deep.but [Tabl] {a : Addr} {H H' : Hp} (k : But a H H') : ∀ {n : Nat} {v : V}, Deep a n H v → Deep a n H' v
  | 0, v, h => h.elim .inl fun ⟨p, xs, e, ne, o, l, r⟩ => .inr ⟨p, xs, e, ne, o.elim (fun q => .inl (k _ _ ne q)) (fun q => .inr (k _ _ ne q)), l, r⟩
  | n + 1, v, h => h.elim .inl fun ⟨p, xs, e, ne, o, l, r⟩ => .inr ⟨p, xs, e, ne, o.elim (fun q => .inl (k _ _ ne q)) (fun q => .inr (k _ _ ne q)), l, fun x m => Deep.but k (r x m)⟩
theorem Deep.same [Tabl] {a : Addr} {H H' : Hp} {n : Nat} {v : V} (h : Deep a n H v) (s : Same H H') : Deep a n H' v := h.but (But.same s)
theorem Deep.up {a : Addr} {H : Hp} : ∀ {n : Nat} {v : V}, Deep a n H v → Deep a (n + 1) H v
  | 0, v, h => h.elim .inl fun ⟨p, xs, e, ne, o, l, r⟩ => .inr ⟨p, xs, e, ne, o, l, fun x m => (r x m).elim⟩
  | n + 1, v, h => h.elim .inl fun ⟨p, xs, e, ne, o, l, r⟩ => .inr ⟨p, xs, e, ne, o, l, fun x m => Deep.up (r x m)⟩
theorem Deep.le {a : Addr} {H : Hp} {n m : Nat} {v : V} (h : Deep a n H v) (l : n ≤ m) : Deep a m H v := by
  induction l with
  | refl => exact h
  | step _ ih => exact ih.up
theorem Deep.shal {a : Addr} {H : Hp} {n : Nat} {v : V} (h : Deep a n H v) : Shal H v := by
  have key : ∀ rel, DeepR a rel H v → Shal H v := by
    rintro rel (⟨pl, tx, _⟩ | ⟨p, xs, e, _, o, _⟩)
    · cases v with
      | non => exact .inr (.inl rfl)
      | bl b => exact .inr (.inr (.inl ⟨b, rfl⟩))
      | int i => exact .inr (.inr (.inr (.inl ⟨i, rfl⟩)))
      | str x => exact .inl ⟨x, rfl, tx x rfl⟩
      | _ => cases pl
    · exact .inr (.inr (.inr (.inr ⟨p, xs, e, o⟩)))
  cases n with
  | zero => exact key _ h
  | succ n => exact key _ h
theorem deep_atom {a : Addr} {H : Hp} {n : Nat} {v : V} (pl : plainV v = true) (tx : ∀ x : Str, v = .str x → x.length ≤ 1000000) (it : ∀ i : Int, v = .int i → i.natAbs < 2 ^ 13000) : Deep a n H v := by
  cases n <;> exact .inl ⟨pl, tx, it⟩
theorem deep_str {a : Addr} {H : Hp} {n : Nat} {x : Str} (l : x.length ≤ 1000000) : Deep a n H (.str x) := deep_atom rfl (fun y e => by cases e; exact l) (fun i e => by cases e)
theorem deep_int {a : Addr} {H : Hp} {n : Nat} {i : Int} (l : i.natAbs < 2 ^ 13000) : Deep a n H (.int i) := deep_atom rfl (fun y e => by cases e) (fun j e => by cases e; exact l)
theorem deep_non {a : Addr} {H : Hp} {n : Nat} : Deep a n H .non := deep_atom rfl (fun y e => by cases e) (fun i e => by cases e)
theorem deep_bl {a : Addr} {H : Hp} {n : Nat} {b : Bool} : Deep a n H (.bl b) := deep_atom rfl (fun y e => by cases e) (fun i e => by cases e)
theorem deep_lst {a p : Addr} {H : Hp} {n : Nat} {xs : List V} (ne : p ≠ a) (e : H p = some (.lst xs)) (l : xs.length ≤ 1000000) (r : ∀ x ∈ xs, Deep a n H x) : Deep a (n + 1) H (.ref p) := .inr ⟨p, xs, rfl, ne, .inl e, l, r⟩
theorem deep_tup {a p : Addr} {H : Hp} {n : Nat} {xs : List V} (ne : p ≠ a) (e : H p = some (.tup xs)) (l : xs.length ≤ 1000000) (r : ∀ x ∈ xs, Deep a n H x) : Deep a (n + 1) H (.ref p) := .inr ⟨p, xs, rfl, ne, .inr e, l, r⟩
theorem Deep.samed {a : Addr} {H : Hp} : ∀ {n : Nat} {v : V}, Deep a n H v → SameD n H v v
  | 0, v, h => h.elim (fun q => .inl ⟨rfl, q.1⟩) fun ⟨p, xs, e, ne, o, l, r⟩ => .inr ⟨p, p, xs, xs, e, e, o.elim (fun q => .inr ⟨q, q⟩) (fun q => .inl ⟨q, q⟩), rfl, l, fun i x y ex ey => (r x (List.mem_of_getElem? ex)).elim⟩
  | n + 1, v, h => h.elim (fun q => .inl ⟨rfl, q.1⟩) fun ⟨p, xs, e, ne, o, l, r⟩ => .inr ⟨p, p, xs, xs, e, e, o.elim (fun q => .inr ⟨q, q⟩) (fun q => .inl ⟨q, q⟩), rfl, l, fun i x y ex ey => by
      rw [ex] at ey
      cases ey
      exact Deep.samed (r x (List.mem_of_getElem? ex))⟩
theorem SameD.keep [Tabl] {H H' : Hp} (s : Same H H') : ∀ {n : Nat} {x y : V}, SameD n H x y → SameD n H' x y
  | 0, x, y, h => h.elim .inl fun ⟨p, q, xs, ys, e1, e2, o, l, m, r⟩ => .inr ⟨p, q, xs, ys, e1, e2, o.elim (fun z => .inl ⟨s _ _ z.1, s _ _ z.2⟩) (fun z => .inr ⟨s _ _ z.1, s _ _ z.2⟩), l, m, fun i a b ea eb => (r i a b ea eb).elim⟩
  | n + 1, x, y, h => h.elim .inl fun ⟨p, q, xs, ys, e1, e2, o, l, m, r⟩ => .inr ⟨p, q, xs, ys, e1, e2, o.elim (fun z => .inl ⟨s _ _ z.1, s _ _ z.2⟩) (fun z => .inr ⟨s _ _ z.1, s _ _ z.2⟩), l, m, fun i a b ea eb => SameD.keep s (r i a b ea eb)⟩
theorem nodup_len : ∀ (l D : List Nat), l.Nodup → (∀ x ∈ l, x ∈ D) → l.length ≤ D.length
  | [], _, _, _ => Nat.zero_le _
  | x :: l, D, nd, h => by
    obtain ⟨h1, h2⟩ := List.nodup_cons.mp nd
    have ih := nodup_len l (D.erase x) h2 fun y hy => (List.mem_erase_of_ne (fun e : y = x => h1 (by rw [← e]; exact hy))).mpr (h y (List.mem_cons_of_mem _ hy))
    have m := h x (List.mem_cons_self ..)
    rw [List.length_erase_of_mem m] at ih
    have := List.length_pos_of_mem m
    rw [List.length_cons]
    omega
/-- one-sign texts joined -/
theorem signs_len {ys : List Str} (h : ∀ y ∈ ys, ∃ c, y = (⟨#[c]⟩ : Str)) : (ys.map (·.length)).sum = ys.length := by
  induction ys with
  | nil => rfl
  | cons y r ih =>
    obtain ⟨c, rfl⟩ := h y List.mem_cons_self
    rw [List.map_cons, List.sum_cons, ih fun x m => h x (List.mem_cons_of_mem _ m), List.length_cons]
    show 1 + r.length = r.length + 1
    omega
theorem join0_len (ys : List Str) : (Txt.join (Str.ofString "") ys).length = (ys.map (·.length)).sum := by
  rw [← cs_len, cs_join0, List.length_flatten, List.map_map]
  congr 1
theorem up3 (c : Nat) : (Txt.upper ⟨#[c]⟩).length ≤ 3 := by
  have h := PyProof.Rows.len_upper (⟨#[c]⟩ : Str)
  have e : (⟨#[c]⟩ : Str).length = 1 := rfl
  omega
theorem Deep.avoid {a D : Addr} {H : Hp} (nd : H D = none) : ∀ {n : Nat} {v : V}, Deep a n H v → Deep D n H v
  | 0, v, h => h.elim .inl fun ⟨p, xs, e, _, o, l, r⟩ => .inr ⟨p, xs, e, fun z => by subst z; rcases o with o | o <;> (rw [nd] at o; cases o), o, l, r⟩
  | n + 1, v, h => h.elim .inl fun ⟨p, xs, e, _, o, l, r⟩ => .inr ⟨p, xs, e, fun z => by subst z; rcases o with o | o <;> (rw [nd] at o; cases o), o, l, fun x m => Deep.avoid nd (r x m)⟩
theorem same_row {H : Hp} {p : Addr} {xs ys : List V} (h : H p = some (.lst xs) ∨ H p = some (.tup xs)) (k : H p = some (.lst ys) ∨ H p = some (.tup ys)) : xs = ys := by
  rcases h with h | h <;> rcases k with k | k <;> (rw [h] at k; cases k) <;> rfl
theorem Deep.put [Tabl] {b D : Addr} {H H' : Hp} (k : But D H H') : ∀ {n : Nat} {v : V}, Deep b n H v → Deep D n H v → Deep b n H' v
  | 0, v, h, g => h.elim .inl fun ⟨p, xs, e, ne, o, l, r⟩ => g.elim .inl fun ⟨q, ys, e2, nd, _⟩ => by
      subst e
      cases e2
      exact .inr ⟨p, xs, rfl, ne, o.elim (fun z => .inl (k _ _ nd z)) (fun z => .inr (k _ _ nd z)), l, r⟩
  | n + 1, v, h, g => h.elim .inl fun ⟨p, xs, e, ne, o, l, r⟩ => g.elim .inl fun ⟨q, ys, e2, nd, o2, _, r2⟩ => by
      subst e
      cases e2
      have := same_row o o2
      subst this
      exact .inr ⟨p, xs, rfl, ne, o.elim (fun z => .inl (k _ _ nd z)) (fun z => .inr (k _ _ nd z)), l, fun x m => Deep.put k (r x m) (r2 x m)⟩
theorem deep_ref {D p : Addr} {H : Hp} {n : Nat} {xs : List V} (g : Deep D n H (.ref p)) (o : H p = some (.lst xs) ∨ H p = some (.tup xs)) : p ≠ D ∧ ∀ m, n = m + 1 → ∀ x ∈ xs, Deep D m H x := by
  cases n with
  | zero =>
    rcases g with ⟨pl, _⟩ | ⟨q, ys, e, ne, _⟩
    · cases pl
    · cases e
      exact ⟨ne, fun m e => by cases e⟩
  | succ n =>
    rcases g with ⟨pl, _⟩ | ⟨q, ys, e, ne, o2, _, r⟩
    · cases pl
    · cases e
      have := same_row o o2
      subst this
      exact ⟨ne, fun m e => by cases e; exact r⟩
theorem SameD.put [Tabl] {D : Addr} {H H' : Hp} (k : But D H H') : ∀ {n : Nat} {x y : V}, SameD n H x y → Deep D n H x → Deep D n H y → SameD n H' x y
  | 0, x, y, h, gx, gy => h.elim .inl fun ⟨p, q, xs, ys, e1, e2, o, l, m, r⟩ => by
      subst e1
      subst e2
      have d1 := (deep_ref gx (o.elim (fun z => .inr z.1) fun z => .inl z.1)).1
      have d2 := (deep_ref gy (o.elim (fun z => .inr z.2) fun z => .inl z.2)).1
      exact .inr ⟨p, q, xs, ys, rfl, rfl, o.elim (fun z => .inl ⟨k _ _ d1 z.1, k _ _ d2 z.2⟩) (fun z => .inr ⟨k _ _ d1 z.1, k _ _ d2 z.2⟩), l, m, fun i a b ea eb => (r i a b ea eb).elim⟩
  | n + 1, x, y, h, gx, gy => h.elim .inl fun ⟨p, q, xs, ys, e1, e2, o, l, m, r⟩ => by
      subst e1
      subst e2
      have d1 := deep_ref gx (o.elim (fun z => .inr z.1) fun z => .inl z.1)
      have d2 := deep_ref gy (o.elim (fun z => .inr z.2) fun z => .inl z.2)
      exact .inr ⟨p, q, xs, ys, rfl, rfl, o.elim (fun z => .inl ⟨k _ _ d1.1 z.1, k _ _ d2.1 z.2⟩) (fun z => .inr ⟨k _ _ d1.1 z.1, k _ _ d2.1 z.2⟩), l, m, fun i a b ea eb => SameD.put k (r i a b ea eb) (d1.2 n rfl a (List.mem_of_getElem? ea)) (d2.2 n rfl b (List.mem_of_getElem? eb))⟩
theorem Same.some [Tabl] {H H' : Hp} (s : Same H H') {b : Addr} (h : H b ≠ none) : H' b ≠ none := fun e => h (s.free e)
/-- x == s, x any plain value, s a text -/
def rEqStr : R2 := fun x y H Q => ∃ z : Str, y = .str z ∧ Shal H x ∧ Q (.bl (decide (x = .str z))) H
theorem op_eqStr {X : Cx} (hu : X.A.units < cLine) : OpR X (compareOp .Eq) rEqStr := by
  intro pins s σ H x y v u Q I rx ry h
  obtain ⟨z, rfl, sx, q⟩ := h
  have flat : scal x (.str z) = true → wpAny (model X.prog X.w) X.A (compareOp .Eq v u) (EP X pins σ Q) X.xe s := fun sc => op_eq pins s σ H x (.str z) v u Q I rx ry ⟨sc, q⟩
  rcases sx with ⟨y, rfl, _⟩ | rfl | ⟨b, rfl⟩ | ⟨i, rfl⟩ | ⟨p, xs, rfl, h | h⟩
  · exact flat rfl
  · exact flat rfl
  · exact flat rfl
  · exact flat rfl
  · rw [decide_eq_false (fun e => by cases e)] at q
    obtain ⟨its, rv, hl, _⟩ := I.list (show SqL X.K H p xs from .inl (.inl h))
    obtain ⟨t', rfl⟩ := ry
    cases rx
    exact SeqAt.RcAt.list_str z t' hl.isList hu X.prog X.w _ _ ⟨.bl false, H, I, rfl, q⟩
  · rw [decide_eq_false (fun e => by cases e)] at q
    obtain ⟨its, rv, hl, _⟩ := I.tuple (show SqT X.K H p xs from .inl (.inl h))
    obtain ⟨t', rfl⟩ := ry
    cases rx
    exact SeqAt.RcAt.tuple_str z t' hl hu X.prog X.w _ _ ⟨.bl false, H, I, rfl, q⟩
def NameS (x : Str) : Prop := 1 ≤ x.length ∧ x.length ≤ 12 ∧ (∀ c, (cs x)[0]? = some c → c ∈ cs abc) ∧ ∀ c ∈ cs x, c ∈ cs abc ∨ c ∈ cs (Str.ofString "0123456789")
def NameV (v : V) : Prop := ∃ x, v = .str x ∧ NameS x
/-! like values, yes or no -/
def DeepE (dp : Hp → V → Prop) (H : Hp) (v : V) : Prop := (plainV v = true ∧ ∀ x : Str, v = .str x → x.length ≤ 1000000) ∨ ∃ (p : Addr) (xs : List V), v = .ref p ∧ (H p = some (.lst xs) ∨ H p = some (.tup xs)) ∧ xs.length ≤ 1000000 ∧ ∀ x ∈ xs, dp H x
def DeepN : Nat → Hp → V → Prop
  | 0 => DeepE fun _ _ => False
  | n + 1 => DeepE (DeepN n)
theorem Deep.toN {a : Addr} {H : Hp} : ∀ {n : Nat} {v : V}, Deep a n H v → DeepN n H v
  | 0, v, h => h.elim (fun q => .inl ⟨q.1, q.2.1⟩) fun ⟨p, xs, e, _, o, l, r⟩ => .inr ⟨p, xs, e, o, l, r⟩
  | n + 1, v, h => h.elim (fun q => .inl ⟨q.1, q.2.1⟩) fun ⟨p, xs, e, _, o, l, r⟩ => .inr ⟨p, xs, e, o, l, fun x m => Deep.toN (r x m)⟩
theorem DeepE.shal {dp : Hp → V → Prop} {H : Hp} {v : V} (h : DeepE dp H v) : Shal H v := by
  rcases h with ⟨pl, tx⟩ | ⟨p, xs, e, o, _⟩
  · cases v with
    | non => exact .inr (.inl rfl)
    | bl b => exact .inr (.inr (.inl ⟨b, rfl⟩))
    | int i => exact .inr (.inr (.inr (.inl ⟨i, rfl⟩)))
    | str x => exact .inl ⟨x, rfl, tx x rfl⟩
    | _ => cases pl
  · exact .inr (.inr (.inr (.inr ⟨p, xs, e, o⟩)))
/-- isinstance(v, tuple), isinstance(v, list) -/
theorem isi_tup {K : PySem.W.Frag} {H : Hp} {v : V} (h : Shal H v) : ∃ (t : Value) (b : Bool), TyX K H v t ∧ PySem.W.kitOne K t (.type "tuple") = some b ∧ (b = true ↔ ∃ p xs, v = .ref p ∧ H p = some (.tup xs)) := by
  rcases h with ⟨x, rfl, _⟩ | rfl | ⟨b, rfl⟩ | ⟨i, rfl⟩ | ⟨p, xs, rfl, h | h⟩
  · exact ⟨_, false, .base (.str x), kit_ty (by decide +kernel), ⟨fun e => (by cases e), fun ⟨p, xs, e, _⟩ => (by cases e)⟩⟩
  · exact ⟨_, false, .base .non, kit_ty (by decide +kernel), ⟨fun e => (by cases e), fun ⟨p, xs, e, _⟩ => (by cases e)⟩⟩
  · exact ⟨_, false, .base (.bl b), kit_ty (by decide +kernel), ⟨fun e => (by cases e), fun ⟨p, xs, e, _⟩ => (by cases e)⟩⟩
  · exact ⟨_, false, .base (.int i), kit_ty (by decide +kernel), ⟨fun e => (by cases e), fun ⟨p, xs, e, _⟩ => (by cases e)⟩⟩
  · exact ⟨_, false, .base (.lst h), kit_ty (by decide +kernel), ⟨fun e => (by cases e), fun ⟨p, xs, e, k⟩ => (by cases e; rw [h] at k; cases k)⟩⟩
  · exact ⟨_, true, .base (.tup h), kit_ty (by decide +kernel), ⟨fun _ => ⟨p, xs, rfl, h⟩, fun _ => rfl⟩⟩
theorem isi_lst {K : PySem.W.Frag} {H : Hp} {v : V} (h : Shal H v) : ∃ (t : Value) (b : Bool), TyX K H v t ∧ PySem.W.kitOne K t (.type "list") = some b ∧ (b = true ↔ ∃ p xs, v = .ref p ∧ H p = some (.lst xs)) := by
  rcases h with ⟨x, rfl, _⟩ | rfl | ⟨b, rfl⟩ | ⟨i, rfl⟩ | ⟨p, xs, rfl, h | h⟩
  · exact ⟨_, false, .base (.str x), kit_ty (by decide +kernel), ⟨fun e => (by cases e), fun ⟨p, xs, e, _⟩ => (by cases e)⟩⟩
  · exact ⟨_, false, .base .non, kit_ty (by decide +kernel), ⟨fun e => (by cases e), fun ⟨p, xs, e, _⟩ => (by cases e)⟩⟩
  · exact ⟨_, false, .base (.bl b), kit_ty (by decide +kernel), ⟨fun e => (by cases e), fun ⟨p, xs, e, _⟩ => (by cases e)⟩⟩
  · exact ⟨_, false, .base (.int i), kit_ty (by decide +kernel), ⟨fun e => (by cases e), fun ⟨p, xs, e, _⟩ => (by cases e)⟩⟩
  · exact ⟨_, true, .base (.lst h), kit_ty (by decide +kernel), ⟨fun _ => ⟨p, xs, rfl, h⟩, fun _ => rfl⟩⟩
  · exact ⟨_, false, .base (.tup h), kit_ty (by decide +kernel), ⟨fun e => (by cases e), fun ⟨p, xs, e, k⟩ => (by cases e; rw [h] at k; cases k)⟩⟩
/-- an atom is like itself alone -/
theorem same_atom {rel : Hp → V → V → Prop} {H : Hp} {x y : V} (h : plainV y = true) : SameR rel H x y ↔ x = y := by
  constructor
  · rintro (⟨e, _⟩ | ⟨p, q, xs, ys, e1, e2, _⟩)
    · exact e
    · rw [e2] at h
      cases h
  · exact fun e => .inl ⟨e, h⟩
/-! what an expression does first, told apart from what is done with its value -/
theorem next_to {D : Ends} {σ : L2.St} {H : Hp} (h : D.nx σ H) : tNext D σ H := h
theorem lift_if {tl : TE} {ta : TA} {sp : Sp} {S tr : TS} {D : Ends} {σ : L2.St} {H : Hp} (Pv : V → Hp → Prop) (h : ∀ Qx : VK, (∀ x H3, Pv x H3 → Qx x H3) → tl σ H Qx)
    (hk : ∀ x H3, Pv x H3 → tSeq (tIfS (tNot (tB (tCall sp [] E0 (tCons (tC x) ta)))) tr tNext) S D σ H3) : tSeq (tIfS (tNot (tB (tCall sp [] E0 (tCons tl ta)))) tr tNext) S D σ H := h _ hk
theorem lift_asg {tl : TE} {S : TS} {tg : TG} {D : Ends} {σ : L2.St} {H : Hp} (Pv : V → Hp → Prop) (h : ∀ Qx : VK, (∀ x H3, Pv x H3 → Qx x H3) → tl σ H Qx)
    (hk : ∀ x H3, Pv x H3 → tSeq (tAsg (tC x) tg) S D σ H3) : tSeq (tAsg tl tg) S D σ H := h _ hk
theorem lift_ret {tl : TE} {ta : TA} {sp : Sp} {D : Ends} {σ : L2.St} {H : Hp} (Pv : V → Hp → Prop) (h : ∀ Qx : VK, (∀ x H3, Pv x H3 → Qx x H3) → tl σ H Qx)
    (hk : ∀ x H3, Pv x H3 → tRet (tCall sp [] E0 (tCons (tC x) ta)) D σ H3) : tRet (tCall sp [] E0 (tCons tl ta)) D σ H := h _ hk
theorem lift_if2 {tl tl2 : TE} {sp : Sp} {S tr : TS} {D : Ends} {σ : L2.St} {H : Hp} (Pv : V → V → Hp → Prop) (h : ∀ Qx : V → VK, (∀ x y H3, Pv x y H3 → Qx x y H3) → tl σ H fun x H1 => tl2 σ H1 fun y H2 => Qx x y H2)
    (hk : ∀ x y H3, Pv x y H3 → tSeq (tIfS (tNot (tB (tCall sp [] E0 (tCons (tC x) (tCons (tC y) tNil))))) tr tNext) S D σ H3) : tSeq (tIfS (tNot (tB (tCall sp [] E0 (tCons tl (tCons tl2 tNil))))) tr tNext) S D σ H := h _ hk
/-! two for in a comprehension -/
theorem lc2_in {J1 : It} {n1 : Nat} {G1 : Hp → Prop} {Y1 : Nat → Hp → V → Hp → Prop} (w : Walk J1 n1 G1 Y1) {g1 : TG} {tt1 : TT} {te : TE} {vs1 : List Nat} {σ2 : L2.St} {H4 : Hp} {D : Addr} {Nx : Hp → Prop} (Pv : Nat → Hp → Prop) (h0 : Pv 0 H4) (hG : ∀ i H, i ≤ n1 → Pv i H → G1 H)
    (hs : ∀ j x H H', j < n1 → Pv j H → Y1 j H x H' → g1 x (wipe σ2 vs1) H' fun σ3 H5 => wipe σ3 vs1 = wipe σ2 vs1 ∧ tt1 σ3 H5 fun b H6 =>
      if b = true then te σ3 H6 fun y H7 => ∃ acc, H7 D = some (.lst acc) ∧ acc.length < sizeLine ∧ Pv (j + 1) (upd H7 D (.lst (acc ++ [y]))) else Pv (j + 1) H6) (hd : ∀ H, Pv n1 H → Nx H) :
    ∃ W1 : Nat → Nat → Hp → Prop, (∃ m, W1 0 m H4) ∧ ∀ j k H, W1 j k H →
      (J1.stop j H ∧ Nx H) ∨ (J1.go j H ∧ ∃ Nx1 : Hp → Prop, (∀ H', Nx1 H' → ∃ k', k' < k ∧ W1 (j + 1) k' H') ∧ ∀ x H', J1.yld j H x H' → g1 x (wipe σ2 vs1) H' fun σ3 H5 => wipe σ3 vs1 = wipe σ2 vs1 ∧ tt1 σ3 H5 fun b H6 =>
        if b = true then te σ3 H6 fun y H7 => ∃ acc, H7 D = some (.lst acc) ∧ acc.length < sizeLine ∧ Nx1 (upd H7 D (.lst (acc ++ [y]))) else Nx1 H6) := by
  refine ⟨fun i m H => m = n1 - i ∧ i ≤ n1 ∧ Pv i H, ⟨n1, by simp, Nat.zero_le _, h0⟩, ?_⟩
  rintro i m H ⟨rfl, hi, q⟩
  have gg := hG i H hi q
  by_cases hlt : i < n1
  · refine .inr ⟨w.goes i H hlt gg, Pv (i + 1), fun H' p' => ⟨n1 - (i + 1), by omega, rfl, hlt, p'⟩, fun x H' y => hs i x H H' hlt q (w.yields i H x H' hlt gg y)⟩
  · have e : i = n1 := by omega
    subst e
    exact .inl ⟨w.stops H gg, hd H q⟩
theorem lc2_out {J : It} {n : Nat} {G : Hp → Prop} {Y : Nat → Hp → V → Hp → Prop} (w : Walk J n G Y) {H1 : Hp} {Qd : Hp → Prop} {Step : (Hp → Prop) → V → Hp → Prop} {D : Addr} (Pv : Nat → Hp → Prop) (h0 : Pv 0 (upd H1 D (.lst []))) (hG : ∀ i H, i ≤ n → Pv i H → G H)
    (hs : ∀ i x H H', i < n → Pv i H → Y i H x H' → Step (Pv (i + 1)) x H') (hd : ∀ H, Pv n H → Qd H) :
    ∃ W : Nat → Nat → Hp → Prop, (∃ m, W 0 m (upd H1 D (.lst []))) ∧ ∀ i m H, W i m H →
      (J.stop i H ∧ Qd H) ∨ (J.go i H ∧ ∃ Nx : Hp → Prop, (∀ H', Nx H' → ∃ m', m' < m ∧ W (i + 1) m' H') ∧ ∀ x H', J.yld i H x H' → Step Nx x H') := by
  refine ⟨fun i m H => m = n - i ∧ i ≤ n ∧ Pv i H, ⟨n, by simp, Nat.zero_le _, h0⟩, ?_⟩
  rintro i m H ⟨rfl, hi, q⟩
  have gg := hG i H hi q
  by_cases hlt : i < n
  · refine .inr ⟨w.goes i H hlt gg, Pv (i + 1), fun H' p' => ⟨n - (i + 1), by omega, rfl, hlt, p'⟩, fun x H' y => hs i x H H' hlt q (w.yields i H x H' hlt gg y)⟩
  · have e : i = n := by omega
    subst e
    exact .inl ⟨w.stops H gg, hd H q⟩
theorem cutV_upto (xs : List V) (k : Nat) : cutV xs none (some (k : Int)) = xs.take k := by
  show (xs.drop (HT.sIx xs.length 0 none)).take (HT.sIx xs.length xs.length (some (k : Int)) - HT.sIx xs.length 0 none) = _
  rw [HT.sIx_none, HT.sIx_nat, List.drop_zero, Nat.sub_zero]
  by_cases h : k ≤ xs.length
  · rw [Nat.min_eq_left h]
  · rw [Nat.min_eq_right (by omega), List.take_of_length_le (Nat.le_refl _), List.take_of_length_le (by omega)]
theorem DeepN.same [Tabl] {H H' : Hp} (s : Same H H') : ∀ {n : Nat} {v : V}, DeepN n H v → DeepN n H' v
  | 0, v, h => h.elim .inl fun ⟨p, xs, e, o, l, r⟩ => .inr ⟨p, xs, e, o.elim (fun z => .inl (s _ _ z)) (fun z => .inr (s _ _ z)), l, fun x m => (r x m).elim⟩
  | n + 1, v, h => h.elim .inl fun ⟨p, xs, e, o, l, r⟩ => .inr ⟨p, xs, e, o.elim (fun z => .inl (s _ _ z)) (fun z => .inr (s _ _ z)), l, fun x m => DeepN.same s (r x m)⟩
theorem skip_seq {c : TT} {t S : TS} {D : Ends} {σ : L2.St} {H : Hp} (Pv : Hp → Prop) (hc : ∀ Q : Bool → Hp → Prop, (∀ H', Pv H' → Q false H') → c σ H Q) (hu : ∀ H', Pv H' → S D σ H') : tSeq (tIfS c t tNext) S D σ H :=
  hc _ fun H' p => iteF (hu H' p)
theorem lift_not {tl : TE} {ta : TA} {sp : Sp} {σ : L2.St} {H : Hp} {Q : Bool → Hp → Prop} (Pv : V → Hp → Prop) (h : ∀ Qx : VK, (∀ x H3, Pv x H3 → Qx x H3) → tl σ H Qx)
    (hk : ∀ x H3, Pv x H3 → tNot (tB (tCall sp [] E0 (tCons (tC x) ta))) σ H3 Q) : tNot (tB (tCall sp [] E0 (tCons tl ta))) σ H Q := h _ hk
theorem lift_call {tl : TE} {ta : TA} {sp : Sp} {σ : L2.St} {H : Hp} {Q : VK} (Pv : V → Hp → Prop) (h : ∀ Qx : VK, (∀ x H3, Pv x H3 → Qx x H3) → tl σ H Qx)
    (hk : ∀ x H3, Pv x H3 → tCall sp [] E0 (tCons (tC x) ta) σ H3 Q) : tCall sp [] E0 (tCons tl ta) σ H Q := h _ hk
/-- a told pair zs, and the pair at d: like ones -/
def PairZ (d : V) (zs : List V) (Hx : Hp) : Prop := ∃ (pd : Addr) (nm : Str) (u w : V), d = .ref pd ∧ Hx pd = some (.tup [.str nm, w]) ∧ zs = [.str nm, u] ∧ SameD 8 Hx u w ∧ DeepN 8 Hx u ∧ DeepN 8 Hx w ∧ nm.length ≤ 1000000
theorem PairZ.same [Tabl] {d : V} {zs : List V} {H H' : Hp} (h : PairZ d zs H) (s : Same H H') : PairZ d zs H' := by
  obtain ⟨pd, nm, u, w, e, hp, ez, sm, du, dw, l⟩ := h
  exact ⟨pd, nm, u, w, e, s _ _ hp, ez, sm.keep s, du.same s, dw.same s, l⟩
theorem PairZ.fit {d : V} {zs : List V} {H : Hp} {t : Addr} (h : PairZ d zs H) (ht : H t = some (.tup zs)) : SameD 9 H (.ref t) d ∧ DeepN 9 H (.ref t) ∧ DeepN 9 H d := by
  obtain ⟨pd, nm, u, w, rfl, hp, rfl, sm, du, dw, l⟩ := h
  have row : ∀ {q : V}, DeepN 8 H q → ∀ y ∈ [V.str nm, q], DeepN 8 H y := fun dq y m => by
    rcases List.mem_cons.mp m with m | m
    · subst m
      exact .inl ⟨rfl, fun z e => by cases e; exact l⟩
    · rw [List.mem_singleton.mp m]
      exact dq
  refine ⟨.inr ⟨t, pd, _, _, rfl, rfl, .inl ⟨ht, hp⟩, rfl, by show 2 ≤ 1000000; decide, fun i x y ex ey => ?_⟩, .inr ⟨t, _, rfl, .inr ht, by show 2 ≤ 1000000; decide, row du⟩, .inr ⟨pd, _, rfl, .inr hp, by show 2 ≤ 1000000; decide, row dw⟩⟩
  match i, ex, ey with
  | 0, ex, ey =>
    cases ex
    cases ey
    exact .inl ⟨rfl, rfl⟩
  | 1, ex, ey =>
    cases ex
    cases ey
    exact sm
theorem SameD.symm {H : Hp} : ∀ {n : Nat} {x y : V}, SameD n H x y → SameD n H y x
  | 0, x, y, h => h.elim (fun q => .inl ⟨q.1.symm, by rw [q.1]; exact q.2⟩) fun ⟨p, q, xs, ys, e1, e2, o, l, m, r⟩ => .inr ⟨q, p, ys, xs, e2, e1, o.elim (fun z => .inl ⟨z.2, z.1⟩) (fun z => .inr ⟨z.2, z.1⟩), l.symm, by omega, fun i a b ea eb => (r i b a eb ea).elim⟩
  | n + 1, x, y, h => h.elim (fun q => .inl ⟨q.1.symm, by rw [q.1]; exact q.2⟩) fun ⟨p, q, xs, ys, e1, e2, o, l, m, r⟩ => .inr ⟨q, p, ys, xs, e2, e1, o.elim (fun z => .inl ⟨z.2, z.1⟩) (fun z => .inr ⟨z.2, z.1⟩), l.symm, by omega, fun i a b ea eb => SameD.symm (r i b a eb ea)⟩
end Lb

namespace GQ
open PySem PySem.Spec PyProof.Rows L2 Lb
variable [Tabl] {X : Cx}
theorem elt_or {P : Addr} {h1 : Heap} {scope : Scope} {x : Str} {e1 e2 : Expr} {pos : Pos} {p1 p2 : Nat → Bool} (a : Elt X P h1 scope x e1 p1) (b : Elt X P h1 scope x e2 p2) : Elt X P h1 scope x (.BoolOp .Or [e1, e2] pos) (fun c => p1 c || p2 c) := by
  intro env A' E' c t r m hs hcl hg hA hn hx keep
  refine wpAny_Or2 (thn (a env A' E' c t r m hs hcl hg hA hn hx keep) fun v r1 ⟨e, k⟩ => ?_)
  subst e
  refine wpAny_truthy_bool ?_
  cases hp : p1 c with
  | true => exact ⟨by show Value.bool true = Value.bool (p1 c || p2 c); rw [hp, Bool.true_or], k⟩
  | false =>
    obtain ⟨h', tk, rfl, kk⟩ := k
    refine thn (b env A' E' c t _ m hs hcl hg hA (hn.at fun o e => kk _ o e) hx (fun b u n e => kk _ _ (keep b u n e))) fun v r2 ⟨e, k2⟩ => ?_
    subst e
    obtain ⟨h2, tk2, rfl, kk2⟩ := k2
    exact ⟨by show Value.bool (p2 c) = Value.bool (p1 c || p2 c); rw [hp, Bool.false_or], h2, tk2, rfl, fun b o e => kk2 _ _ (kk _ _ e)⟩
def tAllG2 (z u : Str) (te : TE) : TE := fun σ H Q => te σ H fun v H1 => ∃ a : Str, v = .str a ∧ Lb.Good H1 ∧ ∀ H2, Lb.Same H1 H2 → Q (.bl (a.cps.toList.all fun c => decide (c ∈ z.cps.toList) || decide (c ∈ u.cps.toList))) H2
def CnGl2 (z u : Str) : L2.St → Hp → (Nat → Bool) → Prop := fun _ _ pb => pb = fun c => decide (c ∈ z.cps.toList) || decide (c ∈ u.cps.toList)
theorem pe_allG2 {c P : Addr} {iter : Expr} {x y yy : Str} {px p pos gpos p1 p2 p3 p4 p5 p6 p7 : Pos} {scope : Scope} {te : TE} {k : Nat} {z u : Str} {tz tu : Tok}
    (hr : Room k X.A) (hm : X.mg "all" = none) (hmy : X.mg y = some (.str z tz)) (hmyy : X.mg yy = some (.str u tu)) (TB : LamX.TabB X.base X.mg c P) (hmem : (P, X.env.qual ++ "<genexpr>") ∈ Tabl.T) (hcode : X.env.code = .ref c) (B : GenB X.env.scope scope x) (hi : PE X iter te)
    (hg : Gl X "all" := by rfl) (hy : scope.names.lookup y = some .globalImplicit := by rfl) (hyy : scope.names.lookup yy = some .globalImplicit := by rfl) (hs : ∀ v, genFold iter X.env v = pure v := by intro _; rfl) (hd : (x == ("__debug__" : Str)) = false := by decide) (hd' : (y == ("__debug__" : Str)) = false := by decide) (hd2 : (yy == ("__debug__" : Str)) = false := by decide)
    (he : starEach [.GeneratorExp (.BoolOp .Or [.Compare (.Name x p1) [.In] [.Name y p2] p3, .Compare (.Name x p4) [.In] [.Name yy p5] p6] p7) [⟨.Name x px, iter, [], 0⟩] scope gpos] X.env = (false, eval (.GeneratorExp (.BoolOp .Or [.Compare (.Name x p1) [.In] [.Name y p2] p3, .Compare (.Name x p4) [.In] [.Name yy p5] p6] p7) [⟨.Name x px, iter, [], 0⟩] scope gpos) X.env) :: starEach [] X.env := by rfl) :
    PE X (.Call (.Name "all" p) [.GeneratorExp (.BoolOp .Or [.Compare (.Name x p1) [.In] [.Name y p2] p3, .Compare (.Name x p4) [.In] [.Name yy p5] p6] p7) [⟨.Name x px, iter, [], 0⟩] scope gpos] [] pos) (tAllG2 z u te) := by
  refine ⟨fun pins s σ H Q I h => ?_⟩
  have S := B.S I.ok
  refine (pe_all (Cn := CnGl2 z u) hr hg hm TB hmem hcode S (pe_weak hi) (fun pins σ H1 s1 pb I1 _ cn => ?_) hs (he := he)).run pins s σ H Q I ⟨_, h, fun v H1 q => ?_⟩
  · cases cn
    exact elt_or (elt_glob S hy hmy TB.gP I1 rfl hd hd') (elt_glob S hyy hmyy TB.gP I1 rfl hd hd2)
  · obtain ⟨a, e1, e2, e3⟩ := q
    exact ⟨a, _, e1, e2, rfl, e3⟩
end GQ

namespace Lb
open PySem PySem.Spec PyProof.Rows L2
/-! ### lists of texts -/
theorem deepN_str {H : Hp} : ∀ {n : Nat} {x : Str}, x.length ≤ 1000000 → DeepN (n + 1) H (.str x) := fun {n x} l => .inl ⟨rfl, fun y e => by cases e; exact l⟩
theorem deepN_strs {H : Hp} {p : Addr} {xs : List Str} (e : H p = some (.lst (xs.map V.str))) (l : xs.length ≤ 1000000) (t : ∀ x ∈ xs, x.length ≤ 1000000) : DeepN 9 H (.ref p) :=
  .inr ⟨p, _, rfl, .inl e, by rw [List.length_map]; exact l, fun v hv => by
    obtain ⟨x, hx, rfl⟩ := List.mem_map.mp hv
    exact deepN_str (t x hx)⟩
theorem same_str {H : Hp} {n : Nat} {x : Str} : SameD (n + 1) H (.str x) (.str x) := .inl ⟨rfl, rfl⟩
theorem same_strs {H : Hp} {p q : Addr} {xs : List Str} (e : H p = some (.lst (xs.map V.str))) (e' : H q = some (.lst (xs.map V.str))) (l : xs.length ≤ 1000000) : SameD 9 H (.ref p) (.ref q) :=
  .inr ⟨p, q, _, _, rfl, rfl, .inr ⟨e, e'⟩, rfl, by rw [List.length_map]; exact l, fun i x y hx hy => by
    rw [hx] at hy
    cases hy
    obtain ⟨z, _, rfl⟩ := List.mem_map.mp (List.mem_of_getElem? hx)
    exact same_str⟩
theorem map_str_inj : ∀ {xs ys : List Str}, xs.map V.str = ys.map V.str → xs = ys
  | [], [], _ => rfl
  | [], _ :: _, h => by cases h
  | _ :: _, [], h => by cases h
  | x :: xs, y :: ys, h => by
    rw [List.map_cons, List.map_cons] at h
    injection h with h1 h2
    rw [V.str.inj h1, map_str_inj h2]
open SetQ
theorem bef_irrefl {x : Str} (h : Bef x x) : False := by
  rcases h with h | h
  · omega
  · exact List.lt_irrefl _ h.2
theorem bef_kLt {x y : Str} : MinQ.kLt x y = true ↔ Bef x y := MinQ.kLt_true
theorem bef_trans {x y z : Str} (h : Bef x y) (k : Bef y z) : Bef x z := bef_kLt.mp (MinQ.kLt_trans (bef_kLt.mpr h) (bef_kLt.mpr k))
theorem bef_nodup {ws : List Str} (h : ws.Pairwise Bef) : ws.Nodup := h.imp fun {a b} q e => by
  subst e
  exact bef_irrefl q
theorem erase_map {α β : Type} (f : α → β) : ∀ (l : List α) (i : Nat), (l.map f).eraseIdx i = (l.eraseIdx i).map f
  | [], _ => rfl
  | x :: l, 0 => rfl
  | x :: l, i + 1 => by
    show f x :: (l.map f).eraseIdx i = _
    rw [erase_map f l i]
    rfl
theorem erase_perm {α : Type} : ∀ (l : List α) (i : Nat) (h : i < l.length), (l[i] :: l.eraseIdx i).Perm l
  | x :: l, 0, _ => .refl _
  | x :: l, i + 1, h => (List.Perm.swap x _ _).trans ((erase_perm l i (Nat.lt_of_succ_lt_succ h)).cons x)
theorem call_isiKK {X : Cx} (K : PySem.W.Frag) (h : X.K = K) : CallR X (.builtin "isinstance") (rIsi K) := by
  subst h
  exact call_isi
theorem pick_all {α : Type} (xs : List α) : ((List.range xs.length).filterMap fun j => xs[j]?) = xs := by
  induction xs with
  | nil => rfl
  | cons x xs ih =>
    rw [List.length_cons, List.range_succ_eq_map, List.filterMap_cons]
    show x :: ((List.range xs.length).map Nat.succ).filterMap (fun j => (x :: xs)[j]?) = x :: xs
    rw [List.filterMap_map]
    exact congrArg (List.cons x) ih
theorem in_strs {x : Str} {xs : List Str} (h : x ∈ xs) : inV (.str x) (xs.map V.str) = true := List.any_eq_true.mpr ⟨.str x, List.mem_map_of_mem h, by simp [eqV]⟩
theorem flat_strs (xs : List Str) : (xs.map V.str).all flatV = true := List.all_eq_true.mpr fun v hv => by
  obtain ⟨x, _, rfl⟩ := List.mem_map.mp hv
  rfl
theorem atI_neg1 {α : Type} {xs : List α} {v : α} (h : xs[xs.length - 1]? = some v) : atI xs (-1) = some v := by
  have ne : xs ≠ [] := fun e => by rw [e] at h; cases h
  have e := List.dropLast_concat_getLast ne
  have l : xs.getLast ne = v := by
    rw [List.getLast_eq_getElem]
    exact Option.some.inj ((List.getElem?_eq_getElem _).symm.trans h)
  rw [← e, l]
  exact atI_last _ _
theorem asg_go {x : V} {i : Nat} {S : TS} {D : Ends} {σ : L2.St} {H : Hp} (h : S D (σ.set i (some x)) H) : tSeq (tAsg (tC x) (gName i)) S D σ H := h
def strOf : V → Str
  | .str x => x
  | _ => ⟨#[]⟩
theorem perm_strs {ys : List V} {xs : List Str} (h : ys.Perm (xs.map V.str)) : ∃ ws : List Str, ys = ws.map V.str ∧ ws.Perm xs := by
  refine ⟨ys.map strOf, ?_, ?_⟩
  · rw [List.map_map]
    refine (List.map_id ys).symm.trans (List.map_congr_left fun y hy => ?_)
    obtain ⟨x, _, rfl⟩ := List.mem_map.mp (h.mem_iff.mp hy)
    rfl
  · have q := h.map strOf
    rw [List.map_map] at q
    have e : xs.map (strOf ∘ V.str) = xs := (List.map_congr_left fun x _ => rfl).trans (List.map_id xs)
    rw [e] at q
    exact q
/-- two rows in order with the same words are one row -/
theorem bef_unique : ∀ {us ws : List Str}, us.Pairwise Bef → ws.Pairwise Bef → (∀ y, y ∈ us ↔ y ∈ ws) → us = ws
  | [], [], _, _, _ => rfl
  | [], w :: ws, _, _, m => absurd ((m w).mpr List.mem_cons_self) List.not_mem_nil
  | u :: us, [], _, _, m => absurd ((m u).mp List.mem_cons_self) List.not_mem_nil
  | u :: us, w :: ws, hu, hw, m => by
    obtain ⟨u1, u2⟩ := List.pairwise_cons.mp hu
    obtain ⟨w1, w2⟩ := List.pairwise_cons.mp hw
    have e : u = w := by
      rcases List.mem_cons.mp ((m u).mp List.mem_cons_self) with q | q
      · exact q
      · rcases List.mem_cons.mp ((m w).mpr List.mem_cons_self) with k | k
        · exact k.symm
        · exact (bef_irrefl (bef_trans (w1 u q) (u1 w k))).elim
    subst e
    have ih := bef_unique u2 w2 fun y => ⟨fun h => ?_, fun h => ?_⟩
    · rw [ih]
    · rcases List.mem_cons.mp ((m y).mp (List.mem_cons_of_mem _ h)) with q | q
      · rw [q] at h
        exact (bef_irrefl (u1 _ h)).elim
      · exact q
    · rcases List.mem_cons.mp ((m y).mpr (List.mem_cons_of_mem _ h)) with q | q
      · rw [q] at h
        exact (bef_irrefl (w1 _ h)).elim
      · exact q
/-- the least of a row in order stands first -/
theorem head_least {ws : List Str} {x w : Str} (h : ws.Pairwise Bef) (mx : x ∈ ws) (hw : ws[0]? = some w) (least : ∀ y ∈ ws, MinQ.kLt y x = false) : x = w := by
  cases ws with
  | nil => cases mx
  | cons u us =>
    have e0 : u = w := Option.some.inj hw
    subst e0
    rcases List.mem_cons.mp mx with e | e
    · exact e
    · have b := (List.pairwise_cons.mp h).1 x e
      have := least u List.mem_cons_self
      rw [bef_kLt.mpr b] at this
      cases this
end Lb

namespace Lb
open PySem PySem.Spec PyProof.Rows L2
/-! ### entries of machines -/
/-- the items of a tuple are plain, if v is one -/
def Inner (H : Hp) (v : V) : Prop := ∀ t xs, v = .ref t → H t = some (.tup xs) → ∀ y ∈ xs, Shal H y
theorem Inner.same [Tabl] {H H' : Hp} {v : V} (sh : Shal H v) (h : Inner H v) (s : Same H H') : Inner H' v := by
  intro t xs e ht y hy
  subst e
  rcases sh with ⟨x, e, _⟩ | e | ⟨b, e⟩ | ⟨i, e⟩ | ⟨p, ys, e, o⟩
  · cases e
  · cases e
  · cases e
  · cases e
  · cases e
    rcases o with o | o
    · rw [s _ _ o] at ht
      cases ht
    · rw [s _ _ o] at ht
      cases ht
      exact (h t xs rfl o y hy).same s
/-- v is a pair of a state and a word, an arc -/
def PairV (H : Hp) (z : Str) (n : Int) (v : V) : Prop := ∃ t i x, v = .ref t ∧ H t = some (.tup [.int i, .str x]) ∧ 0 ≤ i ∧ i ≤ n - 1 ∧ Over z x ∧ (x.length : Int) ≤ 400
def ArcV (H : Hp) (r z : Str) (n : Int) (v : V) : Prop := ∃ t i l x j, v = .ref t ∧ H t = some (.tup [.int i, .str l, .str x, .int j]) ∧ 0 ≤ i ∧ i ≤ n - 1 ∧ l.length = 1 ∧ Over r l ∧ Over z x ∧ (x.length : Int) ≤ 400 ∧ 0 ≤ j ∧ j ≤ n - 1
theorem sign_of {x : Str} (h : x.length = 1) : ∃ c, x = (⟨#[c]⟩ : Str) := ⟨_, one_sign h⟩
theorem any_1st {t : Value} {a b : Value} {K : PySem.W.Frag} (h : PySem.W.kitOne K t a = some true) : PySem.W.kitAny K t [a, b] = some true :=
  kitAny_cons h (fun z => by cases z) (fun _ => rfl)
theorem any_2nd {t : Value} {a b : Value} {K : PySem.W.Frag} (h : PySem.W.kitOne K t a = some false) (k : PySem.W.kitOne K t b = some true) : PySem.W.kitAny K t [a, b] = some true :=
  kitAny_cons h (fun _ => kitAny_cons k (fun z => (by cases z)) (fun _ => rfl)) (fun z => by cases z)
/-! ### rows of entries -/
/-- the values of xs are tuples that hold the entries es -/
def EntL {α : Type} (img : α → List V) (H : Hp) (xs : List V) (es : List α) : Prop := Paired (fun v e => ∃ t, v = .ref t ∧ H t = some (.tup (img e))) xs es
theorem EntL.same [Tabl] {α : Type} {img : α → List V} {H H' : Hp} {xs : List V} {es : List α} (h : EntL img H xs es) (s : Same H H') : EntL img H' xs es := Paired.mapP h fun _ _ ⟨t, e, q⟩ => ⟨t, e, s _ _ q⟩
theorem EntL.len {α : Type} {img : α → List V} {H : Hp} {xs : List V} {es : List α} (h : EntL img H xs es) : xs.length = es.length := h.length
theorem paired_get {α β : Type} {F : α → β → Prop} {xs : List α} {es : List β} (h : Paired F xs es) : ∀ {i : Nat} {x : α}, xs[i]? = some x → ∃ e, es[i]? = some e ∧ F x e := by
  induction h with
  | nil => intro i x e; cases e
  | cons f _ ih =>
    intro i x e
    cases i with
    | zero => cases e; exact ⟨_, rfl, f⟩
    | succ i => exact ih e
theorem paired_get2 {α β : Type} {F : α → β → Prop} {xs : List α} {es : List β} (h : Paired F xs es) : ∀ {i : Nat} {e : β}, es[i]? = some e → ∃ x, xs[i]? = some x ∧ F x e := by
  induction h with
  | nil => intro i x e; cases e
  | cons f _ ih =>
    intro i x e
    cases i with
    | zero => cases e; exact ⟨_, rfl, f⟩
    | succ i => exact ih e
theorem EntL.get {α : Type} {img : α → List V} {H : Hp} {xs : List V} {es : List α} (h : EntL img H xs es) {i : Nat} {x : V} (hx : xs[i]? = some x) : ∃ e t, es[i]? = some e ∧ x = .ref t ∧ H t = some (.tup (img e)) := by
  obtain ⟨e, he, t, et, ht⟩ := paired_get h hx
  exact ⟨e, t, he, et, ht⟩
theorem EntL.of {α : Type} {img : α → List V} {H : Hp} : ∀ {xs : List V} {es : List α}, xs.length = es.length → (∀ (i : Nat) (x : V) (e : α), xs[i]? = some x → es[i]? = some e → ∃ t, x = .ref t ∧ H t = some (.tup (img e))) → EntL img H xs es
  | [], [], _, _ => .nil
  | x :: xs, e :: es, l, h => .cons (h 0 x e rfl rfl) (EntL.of (by simpa using l) fun i y f a b => h (i + 1) y f a b)
  | [], _ :: _, l, _ => by cases l
  | _ :: _, [], l, _ => by cases l
/-- each once, in the order of their first places -/
def addNew {α : Type} [DecidableEq α] (ds : List α) (e : α) : List α := if e ∈ ds then ds else ds ++ [e]
def onces {α : Type} [DecidableEq α] (es : List α) : List α := es.foldl addNew []
theorem onces_snoc {α : Type} [DecidableEq α] (es : List α) (e : α) : onces (es ++ [e]) = addNew (onces es) e := by
  unfold onces
  rw [List.foldl_append]
  rfl
theorem onces_mem {α : Type} [DecidableEq α] (es : List α) : ∀ e, e ∈ onces es ↔ e ∈ es := by
  have key : ∀ (es ds : List α) e, e ∈ es.foldl addNew ds ↔ e ∈ ds ∨ e ∈ es := by
    intro es
    induction es with
    | nil => intro ds e; simp
    | cons x es ih =>
      intro ds e
      rw [List.foldl_cons, ih, List.mem_cons]
      unfold addNew
      by_cases h : x ∈ ds
      · rw [if_pos h]
        constructor
        · rintro (m | m)
          · exact .inl m
          · exact .inr (.inr m)
        · rintro (m | rfl | m)
          · exact .inl m
          · exact .inl h
          · exact .inr m
      · rw [if_neg h, List.mem_append, List.mem_singleton]
        constructor
        · rintro ((m | m) | m)
          · exact .inl m
          · exact .inr (.inl m)
          · exact .inr (.inr m)
        · rintro (m | m | m)
          · exact .inl (.inl m)
          · exact .inl (.inr m)
          · exact .inr m
  intro e
  rw [onces, key]
  simp
theorem onces_nodup {α : Type} [DecidableEq α] (es : List α) : (onces es).Nodup := by
  have key : ∀ (es ds : List α), ds.Nodup → (es.foldl addNew ds).Nodup := by
    intro es
    induction es with
    | nil => intro ds h; exact h
    | cons x es ih =>
      intro ds h
      refine ih _ ?_
      unfold addNew
      by_cases m : x ∈ ds
      · rw [if_pos m]
        exact h
      · rw [if_neg m]
        exact List.nodup_append.mpr ⟨h, List.pairwise_singleton .., fun a ha b hb e => m (by rw [List.mem_singleton.mp hb] at e; rw [← e]; exact ha)⟩
  exact key es [] List.nodup_nil
theorem onces_len {α : Type} [DecidableEq α] (es : List α) : (onces es).length ≤ es.length := by
  have key : ∀ (es ds : List α), (es.foldl addNew ds).length ≤ ds.length + es.length := by
    intro es
    induction es with
    | nil => intro ds; exact Nat.le_refl _
    | cons x es ih =>
      intro ds
      have h := ih (addNew ds x)
      have : (addNew ds x).length ≤ ds.length + 1 := by
        unfold addNew
        split
        · omega
        · rw [List.length_append]
          exact Nat.le_refl _
      rw [List.foldl_cons, List.length_cons]
      omega
  have h := key es []
  rw [List.length_nil, Nat.zero_add] at h
  exact h
/-- the dict whose keys are the entries ds -/
def onesD {α : Type} (pk : α → List L2.Key) (ds : List α) : List (List L2.Key × V) := ds.map fun e => (pk e, V.bl true)
theorem put_ones {α : Type} [DecidableEq α] {pk : α → List L2.Key} (inj : ∀ a b, pk a = pk b → a = b) (ds : List α) (e : α) : putK (onesD pk ds) (pk e) (.bl true) = onesD pk (addNew ds e) := by
  unfold putK addNew onesD
  by_cases m : e ∈ ds
  · have any : ((ds.map fun e => (pk e, V.bl true)).any fun kv => decide (kv.1 = pk e)) = true := List.any_eq_true.mpr ⟨(pk e, .bl true), List.mem_map_of_mem (f := fun e => (pk e, V.bl true)) m, decide_eq_true rfl⟩
    rw [if_pos m, if_pos any, List.map_map]
    refine List.map_congr_left fun a _ => ?_
    show (if pk a = pk e then (pk a, V.bl true) else (pk a, V.bl true)) = _
    rw [ite_self]
  · rw [if_neg m, if_neg, List.map_append]
    · rfl
    · intro h
      obtain ⟨kv, hk, q⟩ := List.any_eq_true.mp h
      obtain ⟨a, ha, rfl⟩ := List.mem_map.mp hk
      exact m (inj _ _ (of_decide_eq_true q) ▸ ha)
theorem ents_keys {α : Type} {pk : α → List L2.Key} {H : Hp} {ds : List α} {bs : List Addr} (h : IsKeys H (onesD pk ds) bs) : EntL (fun e => (pk e).map kV) H (bs.map V.ref) ds := by
  refine EntL.of (by rw [List.length_map, ← h.length]; exact (List.length_map ..)) fun i x e hx he => ?_
  rw [List.getElem?_map] at hx
  cases eb : bs[i]? with
  | none => rw [eb] at hx; cases hx
  | some b =>
    rw [eb] at hx
    cases hx
    obtain ⟨kv, hk, q⟩ := paired_get2 h eb
    have : (onesD pk ds)[i]? = some (pk e, .bl true) := by
      unfold onesD
      rw [List.getElem?_map, he]
      rfl
    rw [this] at hk
    cases hk
    exact ⟨b, rfl, q⟩
/-- sorted by a key: strictly, if each stands once -/
theorem sorted_strict {α : Type} {dec : V → α} {enc : α → PyData} {lt : α → α → Prop} (hle : ∀ e f, (!PySem.W.dataLt (enc f) (enc e)) = true → e ≠ f → lt e f) (xs : List V) (nd : (xs.map dec).Nodup) :
    ((xs.mergeSort (PySem.W.dataLe false fun v => enc (dec v))).map dec).Pairwise lt := by
  have nd2 : ((xs.mergeSort (PySem.W.dataLe false fun v => enc (dec v))).map dec).Nodup := ((List.mergeSort_perm xs _).map dec).nodup_iff.mpr nd
  have pw := EnS.sort_pair (fun v => enc (dec v)) xs
  rw [List.pairwise_map]
  have ne := List.pairwise_map.mp nd2
  exact (pw.and ne).imp fun ⟨a, b⟩ => hle _ _ a b
theorem EntL.perm {α : Type} {img : α → List V} {dec : V → α} {H : Hp} {xs ys : List V} {es : List α} (h : EntL img H xs es) (hd : ∀ t e, H t = some (.tup (img e)) → dec (.ref t) = e) (p : ys.Perm xs) : es = xs.map dec ∧ EntL img H ys (ys.map dec) := by
  have e1 : es = xs.map dec := by
    refine List.ext_getElem? fun i => ?_
    rw [List.getElem?_map]
    cases hx : xs[i]? with
    | none =>
      show es[i]? = none
      rw [List.getElem?_eq_none_iff, ← h.len]
      exact List.getElem?_eq_none_iff.mp hx
    | some x =>
      obtain ⟨e, t, he, rfl, ht⟩ := h.get hx
      rw [he]
      exact congrArg some (hd t e ht).symm
  refine ⟨e1, EntL.of (by rw [List.length_map]) fun i y e hy he => ?_⟩
  rw [List.getElem?_map, hy] at he
  cases he
  obtain ⟨j, hj⟩ := List.getElem?_of_mem (p.mem_iff.mp (List.mem_of_getElem? hy))
  obtain ⟨e, t, _, rfl, ht⟩ := h.get hj
  exact ⟨t, rfl, by rw [hd t e ht]; exact ht⟩
/-- pairs -/
def pimg (e : Int × Str) : List V := [.int e.1, .str e.2]
def ppk (e : Int × Str) : List L2.Key := [.inl e.1, .inr e.2]
theorem ppk_inj (a b : Int × Str) (h : ppk a = ppk b) : a = b := by
  unfold ppk at h
  injection h with h1 h2
  injection h2 with h2 _
  exact Prod.ext (Sum.inl.inj h1) (Sum.inr.inj h2)
def pdec (H : Hp) : V → Int × Str
  | .ref t => match H t with
    | some (.tup [.int i, .str x]) => (i, x)
    | _ => (0, Str.empty)
  | _ => (0, Str.empty)
theorem pdec_at {H : Hp} (t : Addr) (e : Int × Str) (h : H t = some (.tup (pimg e))) : pdec H (.ref t) = e := by
  show (match H t with | some (.tup [.int i, .str x]) => (i, x) | _ => (0, Str.empty)) = e
  rw [h]
  rfl
def relP (H : Hp) (v : V) (d : PyData) : Prop := ∃ (t : Addr) (i : Int) (x : Str), v = .ref t ∧ H t = some (.tup [.int i, .str x]) ∧ x.length ≤ 1000000 ∧ d = EnS.pkey i x
theorem relP_same [Tabl] (H H' : Hp) (x : V) (d : PyData) (s : Same H H') (h : relP H x d) : relP H' x d := by
  obtain ⟨t, i, x, e, ht, l, ed⟩ := h
  exact ⟨t, i, x, e, s _ _ ht, l, ed⟩
theorem dp_wkey {K : PySem.W.Frag} {H : Hp} {p : Addr} {x : Str} (h : H p = some (.tup [.int (x.length : Nat), .str x])) : Dp K H (.ref p) (EnS.wkey x) := .tup (.inl (.inl h)) (.cons (.int _) (.cons (.str _) .nil))
theorem dp_pkey {K : PySem.W.Frag} {H : Hp} {p p' : Addr} {i : Int} {x : Str} (h : H p = some (.tup [.int i, .ref p'])) (h' : H p' = some (.tup [.int (x.length : Nat), .str x])) : Dp K H (.ref p) (EnS.pkey i x) :=
  .tup (.inl (.inl h)) (.cons (.int _) (.cons (dp_wkey h') .nil))
/-- arcs -/
def aimg (e : EnS.Arc) : List V := [.int e.1, .str e.2.1, .str e.2.2.1, .int e.2.2.2]
def apk (e : EnS.Arc) : List L2.Key := [.inl e.1, .inr e.2.1, .inr e.2.2.1, .inl e.2.2.2]
theorem apk_inj (a b : EnS.Arc) (h : apk a = apk b) : a = b := by
  unfold apk at h
  injection h with h1 h2
  injection h2 with h2 h3
  injection h3 with h3 h4
  injection h4 with h4 _
  exact Prod.ext (Sum.inl.inj h1) (Prod.ext (Sum.inr.inj h2) (Prod.ext (Sum.inr.inj h3) (Sum.inl.inj h4)))
def adec (H : Hp) : V → EnS.Arc
  | .ref t => match H t with
    | some (.tup [.int i, .str l, .str x, .int j]) => (i, l, x, j)
    | _ => (0, Str.empty, Str.empty, 0)
  | _ => (0, Str.empty, Str.empty, 0)
theorem adec_at {H : Hp} (t : Addr) (e : EnS.Arc) (h : H t = some (.tup (aimg e))) : adec H (.ref t) = e := by
  show (match H t with | some (.tup [.int i, .str l, .str x, .int j]) => (i, l, x, j) | _ => (0, Str.empty, Str.empty, 0)) = e
  rw [h]
  rfl
def akeyE (e : EnS.Arc) : PyData := EnS.akey e.1 e.2.1 e.2.2.1 e.2.2.2
def relA (H : Hp) (v : V) (d : PyData) : Prop := ∃ (t : Addr) (i : Int) (l x : Str) (j : Int), v = .ref t ∧ H t = some (.tup [.int i, .str l, .str x, .int j]) ∧ x.length ≤ 1000000 ∧ d = EnS.akey i l x j
theorem relA_same [Tabl] (H H' : Hp) (x : V) (d : PyData) (s : Same H H') (h : relA H x d) : relA H' x d := by
  obtain ⟨t, i, l, x, j, e, ht, le, ed⟩ := h
  exact ⟨t, i, l, x, j, e, s _ _ ht, le, ed⟩
theorem dp_akey {K : PySem.W.Frag} {H : Hp} {p p' : Addr} {i j : Int} {l x : Str} (h : H p = some (.tup [.int i, .str l, .ref p', .int j])) (h' : H p' = some (.tup [.int (x.length : Nat), .str x])) : Dp K H (.ref p) (EnS.akey i l x j) :=
  .tup (.inl (.inl h)) (.cons (.int _) (.cons (.str _) (.cons (dp_wkey h') (.cons (.int _) .nil))))
/-- {e: True for e in entries} -/
theorem dct_ents [Tabl] {α : Type} [DecidableEq α] {pk : α → List L2.Key} (inj : ∀ a b, pk a = pk b → a = b) {K : PySem.W.Frag} {i j : Nat} {σ : L2.St} {H : Hp} {p : Addr} {xs : List V} {es : List α} {Q : VK} {tt : TT} {tv : TE}
    (hj : σ[j]? = some (some (.ref p))) (hw : ∀ x, wipe ((wipe σ [i]).set i (some x)) [i] = wipe σ [i]) (hg : ∀ x, ((wipe σ [i]).set i (some x))[i]? = some (some x)) (htt : ∀ σ H Q, Q true H → tt σ H Q) (htv : ∀ σ H Q, Q (.bl true) H → tv σ H Q)
    (hp : SqL K H p xs ∨ SqT K H p xs) (le : xs.length ≤ 1000) (ents : EntL (fun e => (pk e).map kV) H xs es) (q : ∀ (D : Addr) (H' : Hp), Same H H' → H D = none → H' D = some (.dT (onesD pk (onces es))) → Q (.ref D) H') :
    DcT.tDcT (EnT.iSeq K (tVar j)) (gName i) tt (tVar i) tv [i] σ H Q := by
  have lsz : ∀ k, (onesD pk (onces (es.take k))).length < sizeLine := fun k => by
    have h1 := onces_len (es.take k)
    have h2 : (es.take k).length ≤ es.length := by rw [List.length_take]; exact Nat.min_le_right ..
    have h3 : xs.length = es.length := ents.len
    have h4 : (onesD pk (onces (es.take k))).length = (onces (es.take k)).length := List.length_map ..
    rw [h4]
    exact Nat.lt_of_le_of_lt (by omega : _ ≤ 1000) (by decide)
  have body : ∀ (J : It), (∀ i H', Same H H' → i < xs.length → J.go i H') → (∀ H', Same H H' → J.stop xs.length H') → (∀ i H' x H'', Same H H' → J.yld i H' x H'' → H'' = H' ∧ xs[i]? = some x) →
      ∀ D, H D = none → ∃ W : Nat → Nat → Hp → Prop, (∃ m, W 0 m (upd H D (.dT []))) ∧ ∀ k m H, W k m H → (J.stop k H ∧ Q (.ref D) H) ∨ (J.go k H ∧ ∃ Nx : Hp → Prop, (∀ H', Nx H' → ∃ m', m' < m ∧ W (k + 1) m' H') ∧
        ∀ x H', J.yld k H x H' → gName i x (wipe σ [i]) H' fun σ2 H2 => wipe σ2 [i] = wipe σ [i] ∧ tt σ2 H2 fun b H3 => if b = true then tVar i σ2 H3 fun y H4 => tv σ2 H4 fun z H5 => ∃ H6, DPut H5 D y z H6 ∧ Nx H6 else Nx H3) := by
    intro J jg js jy D nD
    refine EnT.dc_any (n := xs.length) (fun k H' => ∃ H0, Same H H0 ∧ H' = H0 ∧ H' D = some (.dT (onesD pk (onces (es.take k))))) ⟨_, same_new nD, rfl, by rw [List.take_zero]; exact upd_same⟩ (fun k H' lt ⟨H0, s0, e0, hD⟩ => ?_) (fun H' ⟨H0, s0, e0, hD⟩ => ?_)
    · subst e0
      refine ⟨jg k H' s0 lt, fun x H'' y => ?_⟩
      obtain ⟨rfl, hx⟩ := jy k H' x H'' s0 y
      obtain ⟨e, t, he, rfl, ht⟩ := ents.get hx
      refine ⟨hw _, htt _ _ _ (iteT ⟨_, hg _, htv _ _ _ ⟨_, DPut.t hD (s0 _ _ ht) (lsz k), _, ?_, rfl, ?_⟩⟩)⟩
      · exact Same.grown (.refl H) nD s0 hD
      · rw [upd_same, put_ones inj, ← onces_snoc, List.take_add_one, he]
        rfl
    · subst e0
      refine ⟨js H' s0, q D H' s0 nD ?_⟩
      rw [hD, ents.len, List.take_length]
  refine ⟨_, hj, p, xs, rfl, ?_⟩
  rcases hp with hp | hp
  · refine .inl ⟨hp, body _ (fun k H' s lt => ⟨xs, _, SkF.sqL_same s hp, List.getElem?_eq_getElem lt⟩) (fun H' s => ⟨xs, SkF.sqL_same s hp, Nat.le_refl _⟩) fun k H' x H'' s y => ⟨y.1, y.2 xs (SkF.sqL_same s hp)⟩⟩
  · refine .inr ⟨hp, body _ (fun k H' s lt => ⟨xs, _, SkF.sqT_same s hp, List.getElem?_eq_getElem lt⟩) (fun H' s => ⟨xs, SkF.sqT_same s hp, Nat.le_refl _⟩) fun k H' x H'' s y => ⟨y.1, y.2 xs (SkF.sqT_same s hp)⟩⟩
/-- for i, e in enumerate(entries), over a list or a tuple that stays -/
theorem for_enumS [Tabl] {K : PySem.W.Frag} {H : Hp} {p : Addr} {xs : List V} {g : TG} {tb : TS} {D : Ends} {σ : L2.St} (hp : SqL K H p xs ∨ SqT K H p xs) (Pv : Nat → L2.St → Hp → Prop) (h0 : Pv 0 σ H) (hs : ∀ i σ H', Pv i σ H' → Same H H')
    (go : ∀ i x σ H' T, xs[i]? = some x → Pv i σ H' → H' T = none → g (.ref T) σ (upd H' T (.tup [.int (i : Nat), x])) fun σ2 H2 => tb { D with nx := Pv (i + 1), ct := Pv (i + 1), bk := D.nx } σ2 H2) (stop : ∀ σ H', Pv xs.length σ H' → D.nx σ H') :
    let F := fun (J : It) => ∃ W : Nat → Nat → L2.St → Hp → Prop, (∃ m, W 0 m σ H) ∧ ∀ i m σ H, W i m σ H →
      (J.stop i H ∧ D.nx σ H) ∨ (J.go i H ∧ ∃ N : L2.St → Hp → Prop, (∀ σ' H', N σ' H' → ∃ m', m' < m ∧ W (i + 1) m' σ' H') ∧ ∀ x H', J.yld i H x H' → g x σ H' fun σ2 H2 => tb { D with nx := N, ct := N, bk := D.nx } σ2 H2)
    (SqL K H p xs ∧ F (Ite K p)) ∨ (SqT K H p xs ∧ F (EnT.IteT K p)) := by
  rcases hp with hp | hp
  · refine .inl ⟨hp, EnT.for_any (n := xs.length) Pv h0 (fun i σ H' lt pv => ?_) (fun σ H' pv => ⟨⟨xs, SkF.sqL_same (hs _ _ _ pv) hp, Nat.le_refl _⟩, stop σ H' pv⟩)⟩
    have sq : SqL K H' p xs := SkF.sqL_same (hs _ _ _ pv) hp
    refine ⟨⟨xs, _, sq, List.getElem?_eq_getElem lt⟩, fun v H'' ⟨T, x, ev, nT, eH, ex⟩ => ?_⟩
    subst ev
    subst eH
    exact go i x σ H' T (ex xs sq) pv nT
  · refine .inr ⟨hp, EnT.for_any (n := xs.length) Pv h0 (fun i σ H' lt pv => ?_) (fun σ H' pv => ⟨⟨xs, SkF.sqT_same (hs _ _ _ pv) hp, rfl⟩, stop σ H' pv⟩)⟩
    have sq : SqT K H' p xs := SkF.sqT_same (hs _ _ _ pv) hp
    refine ⟨⟨xs, _, sq, List.getElem?_eq_getElem lt⟩, fun v H'' ⟨T, x, ev, nT, eH, ex⟩ => ?_⟩
    subst ev
    subst eH
    exact go i x σ H' T (ex xs sq) pv nT
/-- the machine at m -/
def GoodP (z : Str) (n : Int) (e : Int × Str) : Prop := 0 ≤ e.1 ∧ e.1 ≤ n - 1 ∧ Over z e.2 ∧ (e.2.length : Int) ≤ 400
def GoodA (r z : Str) (n : Int) (e : EnS.Arc) : Prop := 0 ≤ e.1 ∧ e.1 ≤ n - 1 ∧ e.2.1.length = 1 ∧ Over r e.2.1 ∧ Over z e.2.2.1 ∧ (e.2.2.1.length : Int) ≤ 400 ∧ 0 ≤ e.2.2.2 ∧ e.2.2.2 ≤ n - 1
def mfs (r z : Str) (n : Int) (b a e : Addr) : List (Str × V) := putF "_ends" (.ref e) (putF "_arcs" (.ref a) (putF "_begins" (.ref b) (putF "_size" (.int n) (putF "_write" (.str z) (putF "_read" (.str r) [])))))
section
variable {r z : Str} {n : Int} {b a e : Addr}
theorem mfs_ends : (mfs r z n b a e).lookup ("_ends" : Str) = some (.ref e) := by
  unfold mfs
  rw [lookup_putF, if_pos rfl]
theorem mfs_arcs : (mfs r z n b a e).lookup ("_arcs" : Str) = some (.ref a) := by
  unfold mfs
  rw [lookup_putF, if_neg (by decide +kernel), lookup_putF, if_pos rfl]
theorem mfs_begins : (mfs r z n b a e).lookup ("_begins" : Str) = some (.ref b) := by
  unfold mfs
  rw [lookup_putF, if_neg (by decide +kernel), lookup_putF, if_neg (by decide +kernel), lookup_putF, if_pos rfl]
theorem mfs_size : (mfs r z n b a e).lookup ("_size" : Str) = some (.int n) := by
  unfold mfs
  rw [lookup_putF, if_neg (by decide +kernel), lookup_putF, if_neg (by decide +kernel), lookup_putF, if_neg (by decide +kernel), lookup_putF, if_pos rfl]
theorem mfs_write : (mfs r z n b a e).lookup ("_write" : Str) = some (.str z) := by
  unfold mfs
  rw [lookup_putF, if_neg (by decide +kernel), lookup_putF, if_neg (by decide +kernel), lookup_putF, if_neg (by decide +kernel), lookup_putF, if_neg (by decide +kernel), lookup_putF, if_pos rfl]
theorem mfs_read : (mfs r z n b a e).lookup ("_read" : Str) = some (.str r) := by
  unfold mfs
  rw [lookup_putF, if_neg (by decide +kernel), lookup_putF, if_neg (by decide +kernel), lookup_putF, if_neg (by decide +kernel), lookup_putF, if_neg (by decide +kernel), lookup_putF, if_neg (by decide +kernel), lookup_putF, if_pos rfl]
end
theorem lenF {f : Str} {v : V} {fs : List (Str × V)} {k : Nat} (h : fs.length ≤ k) : (putF f v fs).length ≤ k + 1 := Nat.le_trans (length_putF f v fs) (by omega)
theorem RowAt.but [Tabl] {K : PySem.W.Frag} {m : Addr} {H H' : Hp} {C dx : Addr} {fs : List (Str × V)} {p : Addr} {xs : List V} (k : But m H H') (hm : H m = some (.ins C dx fs)) (h : Own.RowAt K H p xs) : Own.RowAt K H' p xs :=
  h.imp (fun h => k _ _ (fun e => by rw [e, hm] at h; cases h) h) fun h => h.imp (fun h => k _ _ (fun e => by rw [e, hm] at h; cases h) h) id
theorem EntL.but [Tabl] {α : Type} {img : α → List V} {m : Addr} {H H' : Hp} {C dx : Addr} {fs : List (Str × V)} {xs : List V} {es : List α} (k : But m H H') (hm : H m = some (.ins C dx fs)) (h : EntL img H xs es) : EntL img H' xs es :=
  Paired.mapP h fun _ _ ⟨t, e, q⟩ => ⟨t, e, k _ _ (fun z => by rw [z, hm] at q; cases q) q⟩
/-- the list at l holds the entries es, each once, in order -/
def Told {α : Type} (img : α → List V) (lt : α → α → Prop) (H : Hp) (l : Addr) (es : List α) : Prop := ∃ (xs : List V) (ds : List α), H l = some (.lst xs) ∧ EntL img H xs ds ∧ ds.Pairwise lt ∧ (∀ e, e ∈ ds ↔ e ∈ es) ∧ ds.length ≤ es.length ∧ ds.length ≤ 400
def Mach (C : Addr) (H : Hp) (m : Addr) (r z : Str) (n : Int) (be : List (Int × Str)) (ae : List EnS.Arc) (ee : List (Int × Str)) : Prop := ∃ dx b a e, H m = some (.ins C dx (mfs r z n b a e)) ∧ Told pimg EnS.PLt H b be ∧ Told aimg EnS.ALt H a ae ∧ Told pimg EnS.PLt H e ee ∧ b ≠ a ∧ b ≠ e ∧ a ≠ e
theorem Told.but [Tabl] {α : Type} {img : α → List V} {lt : α → α → Prop} {m : Addr} {H H' : Hp} {C dx : Addr} {fs : List (Str × V)} {l : Addr} {es : List α} (k : But m H H') (hm : H m = some (.ins C dx fs)) (h : Told img lt H l es) : Told img lt H' l es := by
  obtain ⟨xs, ds, hl, en, r⟩ := h
  exact ⟨xs, ds, k _ _ (fun z => by rw [z, hm] at hl; cases hl) hl, en.but k hm, r⟩
/-- the lists that the machine at m holds are new since H -/
def Young (C : Addr) (H H' : Hp) (m : Addr) : Prop := ∀ dx r z n b a e, H' m = some (.ins C dx (mfs r z n b a e)) → H b = none ∧ H a = none ∧ H e = none
theorem Young.of {C : Addr} {H H' : Hp} {m dx : Addr} {r z : Str} {n : Int} {b a e : Addr} (h : H' m = some (.ins C dx (mfs r z n b a e))) (hb : H b = none) (ha : H a = none) (he : H e = none) : Young C H H' m := by
  intro dx' r' z' n' b' a' e' h'
  rw [h] at h'
  have q : mfs r z n b a e = mfs r' z' n' b' a' e' := by
    injection h' with h'
    injection h'
  have q1 := mfs_begins (r := r) (z := z) (n := n) (b := b) (a := a) (e := e)
  rw [q, mfs_begins] at q1
  have q2 := mfs_arcs (r := r) (z := z) (n := n) (b := b) (a := a) (e := e)
  rw [q, mfs_arcs] at q2
  have q3 := mfs_ends (r := r) (z := z) (n := n) (b := b) (a := a) (e := e)
  rw [q, mfs_ends] at q3
  cases q1
  cases q2
  cases q3
  exact ⟨hb, ha, he⟩
theorem vals_take1 : ∀ {xs : List V} {us : List Value}, Vals xs us → Vals (xs.take 1) (us.take 1)
  | _, _, .nil => .nil
  | _, _, .cons a _ => .cons a .nil
/-- x < y, alike data of any depth -/
def rLtD (K : PySem.W.Frag) : R2 := fun x y H Q => ∃ d e, Dp K H x d ∧ Dp K H y e ∧ PySem.W.alike d e = true ∧ d ≠ .none ∧ d.depth ≤ 16 ∧ Q (.bl (PySem.W.dataLt d e)) H
theorem op_ltD {X : Cx} (hu : X.A.units + 64 < cLine) : OpR X (compareOp .Lt) (rLtD X.K) := by
  intro pins s σ H x y v u Q I rx ry h
  obtain ⟨d, e, hd, he, al, nn, dp, q⟩ := h
  obtain ⟨as, r1⟩ := Dp.reads I d x v hd rx
  obtain ⟨bs, r2⟩ := Dp.reads I e y u he ry
  exact PySem.W.lt_data r1 r2 al nn (by omega) ⟨.bl _, H, I, rfl, q⟩
theorem depth_wkey (x : Str) : (EnS.wkey x).depth ≤ 16 := by simp [EnS.wkey, PyData.depth, PyData.depthAll]
theorem hu1 {u : Nat} (h : u + 64 < cLine) : u + 1 < cLine := by omega
/-- a dict of flags by entries -/
def flagD {α : Type} (pk : α → List L2.Key) (f : α → Bool) (ds : List α) : List (List L2.Key × V) := ds.map fun e => (pk e, V.bl (f e))
theorem flag_any {α : Type} {pk : α → List L2.Key} (inj : ∀ a b, pk a = pk b → a = b) (f : α → Bool) (ds : List α) (e : α) : ((flagD pk f ds).any fun kv => decide (kv.1 = pk e)) = true ↔ e ∈ ds := by
  constructor
  · intro h
    obtain ⟨kv, hk, q⟩ := List.any_eq_true.mp h
    obtain ⟨a, ha, rfl⟩ := List.mem_map.mp hk
    exact inj _ _ (of_decide_eq_true q) ▸ ha
  · intro m
    exact List.any_eq_true.mpr ⟨(pk e, .bl (f e)), List.mem_map_of_mem (f := fun e => (pk e, V.bl (f e))) m, decide_eq_true rfl⟩
theorem flag_put {α : Type} [DecidableEq α] {pk : α → List L2.Key} (inj : ∀ a b, pk a = pk b → a = b) (f : α → Bool) (b : Bool) (ds : List α) (e : α) (m : e ∈ ds) :
    putK (flagD pk f ds) (pk e) (.bl b) = flagD pk (fun x => if x = e then b else f x) ds := by
  unfold putK
  rw [if_pos ((flag_any inj f ds e).mpr m)]
  unfold flagD
  rw [List.map_map]
  refine List.map_congr_left fun a _ => ?_
  show (if pk a = pk e then (pk a, V.bl b) else (pk a, V.bl (f a))) = (pk a, V.bl (if a = e then b else f a))
  by_cases h : a = e
  · rw [if_pos h, if_pos (by rw [h])]
  · rw [if_neg h, if_neg fun z => h (inj _ _ z)]
theorem flag_add {α : Type} [DecidableEq α] {pk : α → List L2.Key} (inj : ∀ a b, pk a = pk b → a = b) (b : Bool) (ds : List α) (e : α) : putK (flagD pk (fun _ => b) ds) (pk e) (.bl b) = flagD pk (fun _ => b) (addNew ds e) := by
  unfold addNew
  by_cases m : e ∈ ds
  · rw [if_pos m, flag_put inj _ b ds e m]
    exact congrArg (fun g => flagD pk g ds) (funext fun x => ite_self b)
  · rw [if_neg m]
    unfold putK
    rw [if_neg fun h => m ((flag_any inj _ ds e).mp h)]
    unfold flagD
    rw [List.map_append]
    rfl
theorem flag_val {α : Type} {pk : α → List L2.Key} (inj : ∀ a b, pk a = pk b → a = b) (f : α → Bool) : ∀ {ds : List α} {e : α}, e ∈ ds → valV (flagD pk f ds) (pk e) = some (.bl (f e))
  | d :: ds, e, m => by
    by_cases h : d = e
    · subst h
      exact valV_pos rfl
    · have m' : e ∈ ds := (List.mem_cons.mp m).resolve_left fun z => h z.symm
      exact (valV_neg (fun z => h (inj _ _ z))).trans (flag_val inj f m')
theorem flag_len {α : Type} (pk : α → List L2.Key) (f : α → Bool) (ds : List α) : (flagD pk f ds).length = ds.length := List.length_map ..
end Lb

namespace Lb
open PySem PySem.Spec PyProof.Rows L2
/-! ### lists that are spoilt -/
/-- all but the lists at L stands -/
structure ButL [Tabl] (L : List Addr) (H H' : Hp) : Prop where
  old : ∀ b o, H b = some o → (∀ xs, o = .lst xs → b ∉ L) → NoT o → H' b = some o
  lst : ∀ b xs, H b = some (.lst xs) → ∃ ys, H' b = some (.lst ys)
  tab : ∀ b ps, H b = some (.tbl ps) → ∃ qs, H' b = some (.tbl qs)
  good : Good H → Good H'
section
variable [Tabl] {L : List Addr} {H H1 H' H2 : Hp}
theorem ButL.refl (H : Hp) : ButL L H H := ⟨fun _ _ h _ _ => h, fun _ xs h => ⟨xs, h⟩, fun _ ps h => ⟨ps, h⟩, id⟩
theorem ButL.trans (p : ButL L H H1) (q : ButL L H1 H2) : ButL L H H2 :=
  ⟨fun b o h n k => q.old b o (p.old b o h n k) n k, fun b xs h => let ⟨ys, e⟩ := p.lst b xs h; q.lst b ys e, fun b ps h => let ⟨qs, e⟩ := p.tab b ps h; q.tab b qs e, fun g => q.good (p.good g)⟩
theorem ButL.same (s : Same H H') : ButL L H H' := ⟨fun b o h _ k => s.old b o h k, fun b xs h => ⟨xs, s _ _ h⟩, s.tab, s.good⟩
theorem ButL.put {a : Addr} {xs ys : List V} (m : a ∈ L) (h : H a = some (.lst xs)) : ButL L H (upd H a (.lst ys)) := by
  have b := But.put (o := .lst ys) h
  refine ⟨fun b' o e n k => b.old b' o (fun z => ?_) e k, fun b' xs' e => ?_, b.tab, b.good⟩
  · subst z
    rw [h] at e
    cases e
    exact n _ rfl m
  · by_cases z : b' = a
    · subst z
      exact ⟨ys, upd_same⟩
    · exact ⟨xs', by rw [upd_ne z]; exact e⟩
theorem ButL.tup (k : ButL L H H') {b : Addr} {xs : List V} (h : H b = some (.tup xs)) : H' b = some (.tup xs) := k.old b _ h (fun _ z => by cases z) (fun _ z => by cases z)
theorem ButL.ins (k : ButL L H H') {b C dx : Addr} {fs : List (Str × V)} (h : H b = some (.ins C dx fs)) : H' b = some (.ins C dx fs) := k.old b _ h (fun _ z => by cases z) (fun _ z => by cases z)
theorem ButL.row (k : ButL L H H') {b : Addr} {xs : List V} (h : H b = some (.lst xs)) (n : b ∉ L) : H' b = some (.lst xs) := k.old b _ h (fun _ _ => n) (fun _ z => by cases z)
theorem ButL.free (k : ButL L H H') {p : Addr} (n : H' p = none) : H p = none := by
  cases e : H p with
  | none => rfl
  | some o =>
    by_cases t : ∃ ps, o = .tbl ps
    · obtain ⟨ps, rfl⟩ := t
      obtain ⟨qs, e'⟩ := k.tab _ _ e
      rw [e'] at n
      cases n
    · by_cases l : ∃ xs, o = .lst xs
      · obtain ⟨xs, rfl⟩ := l
        obtain ⟨ys, e'⟩ := k.lst _ _ e
        rw [e'] at n
        cases n
      · rw [k.old _ _ e (fun xs z => absurd ⟨xs, z⟩ l) (fun ps z => t ⟨ps, z⟩)] at n
        cases n
theorem ButL.held (k : ButL L H H') {b : Addr} (h : H b ≠ none) : H' b ≠ none := fun e => h (k.free e)
theorem ButL.back (k : ButL L H H') (h : ∀ b ∈ L, ∀ xs, H b = some (.lst xs) → H' b = some (.lst xs)) : Same H H' := by
  refine ⟨fun b o e t => ?_, k.tab, k.good⟩
  by_cases l : ∃ xs, o = .lst xs
  · obtain ⟨xs, rfl⟩ := l
    by_cases m : b ∈ L
    · exact h b m xs e
    · exact k.row e m
  · exact k.old _ _ e (fun xs z => absurd ⟨xs, z⟩ l) t
/-- lists made since -/
theorem ButL.young (s : Same H H1) (k : ButL L H1 H2) (n : ∀ b ∈ L, H b = none) : Same H H2 :=
  ⟨fun b o e t => k.old b o (s.old b o e t) (fun _ _ m => by rw [n b m] at e; cases e) t, fun b ps e => let ⟨qs, f⟩ := s.tab b ps e; k.tab b qs f, fun g => k.good (s.good g)⟩
theorem ButL.youngB {a : Addr} (s : But a H H1) (k : ButL L H1 H2) (n : ∀ b ∈ L, H b = none) : But a H H2 :=
  ⟨fun b o ne e t => k.old b o (s.old b o ne e t) (fun _ _ m => by rw [n b m] at e; cases e) t, fun b ps e => let ⟨qs, f⟩ := s.tab b ps e; k.tab b qs f, fun g => k.good (s.good g)⟩
theorem ButL.more {L' : List Addr} (k : ButL L H H') (h : ∀ b ∈ L, b ∈ L') : ButL L' H H' := ⟨fun b o e n t => k.old b o e (fun xs z m => n xs z (h b m)) t, k.lst, k.tab, k.good⟩
theorem EntL.butl {α : Type} {img : α → List V} {xs : List V} {es : List α} (h : EntL img H xs es) (k : ButL L H H') : EntL img H' xs es := Paired.mapP h fun _ _ ⟨t, e, q⟩ => ⟨t, e, k.tup q⟩
theorem Told.butl {α : Type} {img : α → List V} {lt : α → α → Prop} {l : Addr} {es : List α} (h : Told img lt H l es) (k : ButL L H H') (n : l ∉ L) : Told img lt H' l es := by
  obtain ⟨xs, ds, hl, en, r⟩ := h
  exact ⟨xs, ds, k.row hl n, en.butl k, r⟩
theorem Told.same {α : Type} {img : α → List V} {lt : α → α → Prop} {l : Addr} {es : List α} (h : Told img lt H l es) (k : Same H H') : Told img lt H' l es := by
  obtain ⟨xs, ds, hl, en, r⟩ := h
  exact ⟨xs, ds, k _ _ hl, en.same k, r⟩
theorem Mach.same {C m : Addr} {r z : Str} {n : Int} {be : List (Int × Str)} {ae : List EnS.Arc} {ee : List (Int × Str)} (h : Mach C H m r z n be ae ee) (s : Same H H') : Mach C H' m r z n be ae ee := by
  obtain ⟨dx, b, a, e, hm, tb, ta, te, r⟩ := h
  exact ⟨dx, b, a, e, s _ _ hm, tb.same s, ta.same s, te.same s, r⟩
theorem Mach.butl {C m : Addr} {r z : Str} {n : Int} {be : List (Int × Str)} {ae : List EnS.Arc} {ee : List (Int × Str)} {G : Hp} (h : Mach C H m r z n be ae ee) (y : Young C G H m) (k : ButL L H H') (o : ∀ b ∈ L, G b ≠ none) : Mach C H' m r z n be ae ee := by
  obtain ⟨dx, b, a, e, hm, tb, ta, te, r⟩ := h
  obtain ⟨y1, y2, y3⟩ := y _ _ _ _ _ _ _ hm
  exact ⟨dx, b, a, e, k.ins hm, tb.butl k fun m => o _ m y1, ta.butl k fun m => o _ m y2, te.butl k fun m => o _ m y3, r⟩
end
/-- L: the lists in a plain value, from within -/
def ListsR (rel : Hp → V → List Addr → Prop) (H : Hp) (v : V) (L : List Addr) : Prop := (plainV v = true ∧ L = []) ∨ ∃ (p : Addr) (xs : List V) (Ls : List (List Addr)), v = .ref p ∧ xs.length ≤ 1000000 ∧ Ls.length = xs.length ∧
  (∀ (i : Nat) (x : V) (l : List Addr), xs[i]? = some x → Ls[i]? = some l → rel H x l) ∧ ((H p = some (.lst xs) ∧ L = Ls.flatten ++ [p]) ∨ (H p = some (.tup xs) ∧ L = Ls.flatten))
def ListsD : Nat → Hp → V → List Addr → Prop
  | 0 => ListsR fun _ _ _ => False
  | n + 1 => ListsR (ListsD n)
theorem ListsD.keep [Tabl] {H H' : Hp} (s : Same H H') : ∀ {n : Nat} {v : V} {L : List Addr}, ListsD n H v L → ListsD n H' v L
  | 0, v, L, h => h.elim .inl fun ⟨p, xs, Ls, e, l, ll, r, o⟩ => .inr ⟨p, xs, Ls, e, l, ll, fun i x l a b => (r i x l a b).elim, o.elim (fun z => .inl ⟨s _ _ z.1, z.2⟩) fun z => .inr ⟨s _ _ z.1, z.2⟩⟩
  | n + 1, v, L, h => h.elim .inl fun ⟨p, xs, Ls, e, l, ll, r, o⟩ => .inr ⟨p, xs, Ls, e, l, ll, fun i x l a b => ListsD.keep s (r i x l a b), o.elim (fun z => .inl ⟨s _ _ z.1, z.2⟩) fun z => .inr ⟨s _ _ z.1, z.2⟩⟩
/-- each of them is a list -/
theorem ListsD.lst {H : Hp} : ∀ {n : Nat} {v : V} {L : List Addr}, ListsD n H v L → ∀ a ∈ L, ∃ xs, H a = some (.lst xs) ∧ xs.length ≤ 1000000 := by
  have key : ∀ (rel : Hp → V → List Addr → Prop), (∀ x l, rel H x l → ∀ a ∈ l, ∃ xs, H a = some (.lst xs) ∧ xs.length ≤ 1000000) → ∀ v L, ListsR rel H v L → ∀ a ∈ L, ∃ xs, H a = some (.lst xs) ∧ xs.length ≤ 1000000 := by
    rintro rel ih v L (⟨_, rfl⟩ | ⟨p, xs, Ls, _, lx, ll, r, o⟩) a m
    · cases m
    · have fl : a ∈ Ls.flatten → ∃ xs, H a = some (.lst xs) ∧ xs.length ≤ 1000000 := fun m => by
        obtain ⟨l, ml, ma⟩ := List.mem_flatten.mp m
        obtain ⟨i, hi, e⟩ := List.mem_iff_getElem.mp ml
        have h1 : Ls[i]? = some l := by rw [List.getElem?_eq_getElem hi, e]
        exact ih _ _ (r i _ l (List.getElem?_eq_getElem (by omega)) h1) a ma
      rcases o with ⟨o, rfl⟩ | ⟨o, rfl⟩
      · rcases List.mem_append.mp m with m | m
        · exact fl m
        · rw [List.mem_singleton.mp m]
          exact ⟨xs, o, lx⟩
      · exact fl m
  intro n
  induction n with
  | zero => exact fun {v L} => key _ (fun _ _ h => h.elim) v L
  | succ n ih => exact fun {v L} => key _ (fun _ _ h => ih h) v L
theorem take_flat_len {α : Type} (Ls : List (List α)) (i : Nat) : (Ls.take i).flatten.length ≤ Ls.flatten.length := by
  have h : Ls.flatten = (Ls.take i).flatten ++ (Ls.drop i).flatten := by rw [← List.flatten_append, List.take_append_drop]
  rw [h, List.length_append]
  omega
theorem take_flat {α : Type} {Ls : List (List α)} {i : Nat} {l : List α} (h : Ls[i]? = some l) : (Ls.take (i + 1)).flatten = (Ls.take i).flatten ++ l := by
  rw [List.take_add_one, h, List.flatten_append]
  show _ ++ (l ++ []) = _
  rw [List.append_nil]
/-- for x in xs, a list or a tuple that stays -/
theorem for_seq [Tabl] {K : PySem.W.Frag} {H : Hp} {p : Addr} {xs : List V} {g : TG} {tb : TS} {D : Ends} {σ : L2.St} (hp : SqL K H p xs ∨ SqT K H p xs) (Pv : Nat → L2.St → Hp → Prop) (h0 : Pv 0 σ H) (hs : ∀ i σ H', Pv i σ H' → Same H H')
    (go : ∀ i x σ H', xs[i]? = some x → Pv i σ H' → g x σ H' fun σ2 H2 => tb { D with nx := Pv (i + 1), ct := Pv (i + 1), bk := D.nx } σ2 H2) (stop : ∀ σ H', Pv xs.length σ H' → D.nx σ H') :
    let F := fun (J : It) => ∃ W : Nat → Nat → L2.St → Hp → Prop, (∃ m, W 0 m σ H) ∧ ∀ i m σ H, W i m σ H →
      (J.stop i H ∧ D.nx σ H) ∨ (J.go i H ∧ ∃ N : L2.St → Hp → Prop, (∀ σ' H', N σ' H' → ∃ m', m' < m ∧ W (i + 1) m' σ' H') ∧ ∀ x H', J.yld i H x H' → g x σ H' fun σ2 H2 => tb { D with nx := N, ct := N, bk := D.nx } σ2 H2)
    (SqL K H p xs ∧ F (Itl K p)) ∨ (SqT K H p xs ∧ F (Itt K p)) := by
  rcases hp with hp | hp
  · refine .inl ⟨hp, EnT.for_any (n := xs.length) Pv h0 (fun i σ H' lt pv => ?_) (fun σ H' pv => ⟨⟨xs, SkF.sqL_same (hs _ _ _ pv) hp, Nat.le_refl _⟩, stop σ H' pv⟩)⟩
    have sq : SqL K H' p xs := SkF.sqL_same (hs _ _ _ pv) hp
    refine ⟨⟨xs, _, sq, List.getElem?_eq_getElem lt⟩, fun v H'' y => ?_⟩
    obtain ⟨e1, e2⟩ := y
    subst e1
    exact go i v σ H'' (e2 xs sq) pv
  · refine .inr ⟨hp, EnT.for_any (n := xs.length) Pv h0 (fun i σ H' lt pv => ?_) (fun σ H' pv => ⟨⟨xs, SkF.sqT_same (hs _ _ _ pv) hp, Nat.le_refl _⟩, stop σ H' pv⟩)⟩
    have sq : SqT K H' p xs := SkF.sqT_same (hs _ _ _ pv) hp
    refine ⟨⟨xs, _, sq, List.getElem?_eq_getElem lt⟩, fun v H'' y => ?_⟩
    obtain ⟨e1, e2⟩ := y
    subst e1
    exact go i v σ H'' (e2 xs sq) pv
theorem pw_unique {α : Type} {lt : α → α → Prop} (asym : ∀ a b, lt a b → lt b a → False) : ∀ {us ws : List α}, us.Pairwise lt → ws.Pairwise lt → (∀ y, y ∈ us ↔ y ∈ ws) → us = ws
  | [], [], _, _, _ => rfl
  | [], w :: ws, _, _, h => by cases (h w).mpr List.mem_cons_self
  | u :: us, [], _, _, h => by cases (h u).mp List.mem_cons_self
  | u :: us, w :: ws, p, q, h => by
    obtain ⟨p1, p2⟩ := List.pairwise_cons.mp p
    obtain ⟨q1, q2⟩ := List.pairwise_cons.mp q
    have e : u = w := by
      rcases List.mem_cons.mp ((h u).mp List.mem_cons_self) with e | m
      · exact e
      · rcases List.mem_cons.mp ((h w).mpr List.mem_cons_self) with e | m2
        · exact e.symm
        · exact (asym _ _ (p1 _ m2) (q1 _ m)).elim
    subst e
    rw [pw_unique asym p2 q2 fun y => ⟨fun m => ?_, fun m => ?_⟩]
    · rcases List.mem_cons.mp ((h y).mp (List.mem_cons_of_mem _ m)) with e | m2
      · subst e
        exact (asym _ _ (p1 _ m) (p1 _ m)).elim
      · exact m2
    · rcases List.mem_cons.mp ((h y).mpr (List.mem_cons_of_mem _ m)) with e | m2
      · subst e
        exact (asym _ _ (q1 _ m) (q1 _ m)).elim
      · exact m2
theorem pw_nodup {α : Type} {lt : α → α → Prop} (asym : ∀ a b, lt a b → lt b a → False) {us : List α} (h : us.Pairwise lt) : us.Nodup := h.imp fun {a b} q e => by
  subst e
  exact asym _ _ q q
theorem plt_asym (a b : Int × Str) (h : EnS.PLt a b) (k : EnS.PLt b a) : False := by
  rcases h with h | ⟨h1, h2⟩ <;> rcases k with k | ⟨k1, k2⟩
  · omega
  · omega
  · omega
  · exact bef_irrefl (bef_trans h2 k2)
theorem alt_asym (a b : EnS.Arc) (h : EnS.ALt a b) (k : EnS.ALt b a) : False := by
  rcases h with h | ⟨h1, h2⟩ <;> rcases k with k | ⟨k1, k2⟩
  · omega
  · omega
  · omega
  rcases h2 with h | ⟨h3, h4⟩ <;> rcases k2 with k | ⟨k3, k4⟩
  · exact List.lt_asymm h k
  · rw [k3] at h
    exact List.lt_irrefl _ h
  · rw [h3] at k
    exact List.lt_irrefl _ k
  rcases h4 with h | ⟨h5, h6⟩ <;> rcases k4 with k | ⟨k5, k6⟩
  · exact bef_irrefl (bef_trans h k)
  · rw [k5] at h
    exact bef_irrefl h
  · rw [h5] at k
    exact bef_irrefl k
  · omega
/-- entries as keys: pairs or arcs in strict order -/
def kimg (e : List L2.Key) : List V := e.map kV
def Shape (ds : List (List L2.Key)) : Prop := (∃ ps : List (Int × Str), ds = ps.map ppk ∧ ps.Pairwise EnS.PLt ∧ ∀ e ∈ ps, e.2.length ≤ 1000000) ∨ ∃ as : List EnS.Arc, ds = as.map apk ∧ as.Pairwise EnS.ALt ∧ ∀ e ∈ as, e.2.1.length ≤ 1000000 ∧ e.2.2.1.length ≤ 1000000
theorem EntL.keys {α : Type} {img : α → List V} (pk : α → List L2.Key) (hp : ∀ e, (pk e).map kV = img e) {H : Hp} : ∀ {xs : List V} {es : List α}, EntL img H xs es → EntL kimg H xs (es.map pk)
  | _, _, .nil => .nil
  | _, _, .cons ⟨t, e, q⟩ r => .cons ⟨t, e, by rw [show kimg (pk _) = _ from hp _]; exact q⟩ (EntL.keys pk hp r)
/-- a told list, by keys -/
structure KeysOf (H : Hp) (l : Addr) (es : List (List L2.Key)) (rs : List V) (ds : List (List L2.Key)) : Prop where
  row : H l = some (.lst rs)
  ent : EntL kimg H rs ds
  nd : ds.Nodup
  mem : ∀ e, e ∈ ds ↔ e ∈ es
  len : ds.length ≤ 1000
  shape : Shape ds
theorem nodup_map {α β : Type} {f : α → β} (inj : ∀ a b, f a = f b → a = b) {xs : List α} (h : xs.Nodup) : (xs.map f).Nodup := List.pairwise_map.mpr (h.imp fun {a b} ne e => ne (inj a b e))
theorem mem_map_inj {α β : Type} {f : α → β} {xs ys : List α} (h : ∀ e, e ∈ xs ↔ e ∈ ys) : ∀ e, e ∈ xs.map f ↔ e ∈ ys.map f := fun e => by
  rw [List.mem_map, List.mem_map]
  exact ⟨fun ⟨a, m, q⟩ => ⟨a, (h a).mp m, q⟩, fun ⟨a, m, q⟩ => ⟨a, (h a).mpr m, q⟩⟩
theorem Told.keysP {H : Hp} {l : Addr} {es : List (Int × Str)} (h : Told pimg EnS.PLt H l es) (g : ∀ e ∈ es, e.2.length ≤ 400) : ∃ rs ds, KeysOf H l (es.map ppk) rs ds := by
  obtain ⟨rs, ds, hl, en, pw, mem, _, l4⟩ := h
  exact ⟨rs, ds.map ppk, hl, en.keys ppk fun _ => rfl, nodup_map ppk_inj (pw_nodup plt_asym pw), mem_map_inj mem, by rw [List.length_map]; omega, .inl ⟨ds, rfl, pw, fun e m => Nat.le_trans (g e ((mem e).mp m)) (by decide)⟩⟩
theorem Told.keysA {H : Hp} {l : Addr} {es : List EnS.Arc} (h : Told aimg EnS.ALt H l es) (g : ∀ e ∈ es, e.2.1.length ≤ 400 ∧ e.2.2.1.length ≤ 400) : ∃ rs ds, KeysOf H l (es.map apk) rs ds := by
  obtain ⟨rs, ds, hl, en, pw, mem, _, l4⟩ := h
  exact ⟨rs, ds.map apk, hl, en.keys apk fun _ => rfl, nodup_map apk_inj (pw_nodup alt_asym pw), mem_map_inj mem, by rw [List.length_map]; omega, .inr ⟨ds, rfl, pw, fun e m => ⟨Nat.le_trans (g e ((mem e).mp m)).1 (by decide), Nat.le_trans (g e ((mem e).mp m)).2 (by decide)⟩⟩⟩
/-- x[i], a list or a tuple -/
theorem ix_any {K : PySem.W.Frag} {H : Hp} {p : Addr} {xs : List V} {i : Int} {x : V} {Q : VK} (hp : SqL K H p xs ∨ SqT K H p xs) (ha : atI xs i = some x) (q : Q x H) : rIx K (.ref p) (.int i) H Q :=
  hp.elim (fun h => .inl ⟨_, _, _, _, rfl, rfl, h, ha, q⟩) fun h => .inr (.inl ⟨_, _, _, _, rfl, rfl, h, ha, q⟩)
theorem sq_same [Tabl] {K : PySem.W.Frag} {H H' : Hp} {p : Addr} {xs : List V} (s : Same H H') (h : SqL K H p xs ∨ SqT K H p xs) : SqL K H' p xs ∨ SqT K H' p xs := h.imp (SkF.sqL_same s) (SkF.sqT_same s)
/-- entries of plain values -/
def ImgOk {α : Type} (img : α → List V) : Prop := ∀ e, (img e).length ≤ 4 ∧ ∀ v ∈ img e, plainV v = true
theorem pimg_ok : ImgOk pimg := fun e => ⟨by show 2 ≤ 4; decide, fun v m => by
  rcases List.mem_cons.mp m with h | m
  · rw [h]; rfl
  · rw [List.mem_singleton.mp m]; rfl⟩
theorem aimg_ok : ImgOk aimg := fun e => ⟨by show 4 ≤ 4; decide, fun v m => by
  rcases List.mem_cons.mp m with h | m
  · rw [h]; rfl
  rcases List.mem_cons.mp m with h | m
  · rw [h]; rfl
  rcases List.mem_cons.mp m with h | m
  · rw [h]; rfl
  · rw [List.mem_singleton.mp m]; rfl⟩
theorem ent_samed {α : Type} {img : α → List V} (ok : ImgOk img) {H : Hp} {n : Nat} {xs ys : List V} {es : List α} (h : EntL img H xs es) (k : EntL img H ys es) {i : Nat} {x y : V} (ex : xs[i]? = some x) (ey : ys[i]? = some y) : SameD (n + 1) H x y := by
  obtain ⟨e, t, he, rfl, ht⟩ := h.get ex
  obtain ⟨e', t', he', rfl, ht'⟩ := k.get ey
  rw [he] at he'
  cases he'
  obtain ⟨l, pl⟩ := ok e
  refine .inr ⟨t, t', _, _, rfl, rfl, .inl ⟨ht, ht'⟩, rfl, Nat.le_trans l (by decide), fun j a b ea eb => ?_⟩
  have q : a = b := Option.some.inj (ea.symm.trans eb)
  have pb := pl b (List.mem_of_getElem? eb)
  cases n with
  | zero => exact .inl ⟨q, pb⟩
  | succ n => exact .inl ⟨q, pb⟩
theorem rows_samed {α : Type} {img : α → List V} (ok : ImgOk img) {H : Hp} {n : Nat} {p q : Addr} {xs ys : List V} {es : List α} (hp : H p = some (.lst xs)) (hq : H q = some (.lst ys)) (h : EntL img H xs es) (k : EntL img H ys es) (l : es.length ≤ 1000000) : SameD (n + 2) H (.ref p) (.ref q) :=
  .inr ⟨p, q, xs, ys, rfl, rfl, .inr ⟨hp, hq⟩, h.len.trans k.len.symm, by rw [k.len]; exact l, fun _ _ _ ex ey => ent_samed ok h k ex ey⟩
/-- the six parts of a machine, as they are drawn -/
def Parts (H : Hp) (p : Addr) (r z : Str) (n : Int) (be : List (Int × Str)) (ae : List EnS.Arc) (ee : List (Int × Str)) : Prop := ∃ (b a e : Addr) (bx ax ex : List V), H p = some (.lst [.str r, .str z, .int n, .ref b, .ref a, .ref e]) ∧ H b = some (.lst bx) ∧ H a = some (.lst ax) ∧ H e = some (.lst ex) ∧
  IsAlpha r ∧ IsAlpha z ∧ 0 ≤ n ∧ n ≤ 64 ∧ bx.length ≤ 400 ∧ ax.length ≤ 400 ∧ ex.length ≤ 400 ∧ EntL pimg H bx be ∧ EntL aimg H ax ae ∧ EntL pimg H ex ee ∧ (∀ e ∈ be, GoodP z n e) ∧ (∀ e ∈ ae, GoodA r z n e) ∧ ∀ e ∈ ee, GoodP z n e
theorem But.made [Tabl] {m dx C : Addr} {H H' : Hp} (nm : H m = none) (nd : H dx = none) (ne : dx ≠ m) (b : But m (upd (upd H dx (.own m)) m (.ins C dx [])) H') : Same H H' := by
  have s1 := same_new (o := .own m) nd
  have nm' : (upd H dx (.own m)) m = none := by rw [upd_ne (Ne.symm ne)]; exact nm
  have s2 := same_new (o := .ins C dx []) nm'
  have s := s1.trans s2
  exact ⟨fun x o h k => b.old x o (fun z => by rw [z, nm] at h; cases h) (s.old x o h k) k, fun x ps h => let ⟨qs, e⟩ := s.tab x ps h; b.tab x qs e, fun g => b.good (s.good g)⟩
theorem samed_plain {n : Nat} {H : Hp} {x y : V} (h : SameD n H x y) (pl : plainV y = true) : x = y := by
  cases n with
  | zero =>
    rcases h with ⟨e, _⟩ | ⟨_, _, _, _, _, e, _⟩
    · exact e
    · rw [e] at pl; cases pl
  | succ n =>
    rcases h with ⟨e, _⟩ | ⟨_, _, _, _, _, e, _⟩
    · exact e
    · rw [e] at pl; cases pl
/-- what is like a list is a list of likes -/
theorem samed_lst {n : Nat} {H : Hp} {x : V} {q : Addr} {ys : List V} (h : SameD (n + 1) H x (.ref q)) (hq : H q = some (.lst ys)) : ∃ u xs, x = .ref u ∧ H u = some (.lst xs) ∧ xs.length = ys.length ∧ ∀ (i : Nat) (a b : V), xs[i]? = some a → ys[i]? = some b → SameD n H a b := by
  rcases h with ⟨_, pl⟩ | ⟨u, q', xs, ys', rfl, e, o, l, _, r⟩
  · cases pl
  · cases e
    rcases o with ⟨_, o2⟩ | ⟨o1, o2⟩
    · rw [hq] at o2; cases o2
    · rw [hq] at o2
      cases o2
      exact ⟨u, xs, rfl, o1, l, r⟩
theorem samed_tup {n : Nat} {H : Hp} {x : V} {q : Addr} {ys : List V} (h : SameD (n + 1) H x (.ref q)) (hq : H q = some (.tup ys)) : ∃ u xs, x = .ref u ∧ H u = some (.tup xs) ∧ xs.length = ys.length ∧ ∀ (i : Nat) (a b : V), xs[i]? = some a → ys[i]? = some b → SameD n H a b := by
  rcases h with ⟨_, pl⟩ | ⟨u, q', xs, ys', rfl, e, o, l, _, r⟩
  · cases pl
  · cases e
    rcases o with ⟨o1, o2⟩ | ⟨_, o2⟩
    · rw [hq] at o2
      cases o2
      exact ⟨u, xs, rfl, o1, l, r⟩
    · rw [hq] at o2; cases o2
theorem samed_ents {α : Type} {img : α → List V} (ok : ImgOk img) {n : Nat} {H : Hp} {x : V} {q : Addr} {ys : List V} {es : List α} (h : SameD (n + 2) H x (.ref q)) (hq : H q = some (.lst ys)) (en : EntL img H ys es) : ∃ u xs, x = .ref u ∧ H u = some (.lst xs) ∧ EntL img H xs es := by
  obtain ⟨u, xs, rfl, hu, l, r⟩ := samed_lst h hq
  refine ⟨u, xs, rfl, hu, EntL.of (l.trans en.len) fun i x e ex he => ?_⟩
  obtain ⟨y, ey, t, rfl, ht⟩ := paired_get2 en he
  obtain ⟨u', zs, rfl, hu', l', r'⟩ := samed_tup (r i _ _ ex ey) ht
  refine ⟨u', rfl, ?_⟩
  have : zs = img e := by
    refine List.ext_getElem? fun j => ?_
    cases ea : zs[j]? with
    | none =>
      symm
      rw [List.getElem?_eq_none_iff, ← l']
      exact List.getElem?_eq_none_iff.mp ea
    | some a =>
      have hj := (List.getElem?_eq_some_iff.mp ea).1
      have eb := List.getElem?_eq_getElem (l := img e) (i := j) (by omega)
      rw [eb, samed_plain (r' j _ _ ea eb) ((ok e).2 _ (List.getElem_mem _))]
  rw [← this]
  exact hu'
/-- small atoms -/
def AtomsOk (vs : List V) : Prop := ∀ v ∈ vs, plainV v = true ∧ (∀ x : Str, v = .str x → x.length ≤ 1000000) ∧ ∀ i : Int, v = .int i → i.natAbs < 2 ^ 13000
theorem small_pow {i : Int} (h : i.natAbs < 64) : i.natAbs < 2 ^ 13000 := by
  have h2 : 2 ^ 6 ≤ 2 ^ 13000 := Nat.pow_le_pow_right (by omega) (by omega)
  exact Nat.lt_of_lt_of_le (show i.natAbs < 2 ^ 6 from h) h2
theorem atom_int {i : Int} {n : Int} (h0 : 0 ≤ i) (h1 : i ≤ n - 1) (h2 : n ≤ 64) : plainV (.int i) = true ∧ (∀ x : Str, V.int i = .str x → x.length ≤ 1000000) ∧ ∀ j : Int, V.int i = .int j → j.natAbs < 2 ^ 13000 := ⟨rfl, fun x e => (by cases e), fun j e => (by cases e; exact small_pow (by omega))⟩
theorem atom_str {x : Str} (h : x.length ≤ 400) : plainV (.str x) = true ∧ (∀ y : Str, V.str x = .str y → y.length ≤ 1000000) ∧ ∀ j : Int, V.str x = .int j → j.natAbs < 2 ^ 13000 := ⟨rfl, fun y e => (by cases e; omega), fun j e => (by cases e)⟩
theorem goodP_atoms {z : Str} {n : Int} {e : Int × Str} (g : GoodP z n e) (h : n ≤ 64) : AtomsOk (pimg e) := fun v m => by
  obtain ⟨g1, g2, _, g3⟩ := g
  rcases List.mem_cons.mp m with h' | m
  · rw [h']; exact atom_int g1 g2 h
  · rw [List.mem_singleton.mp m]; exact atom_str (by omega)
theorem goodA_atoms {r z : Str} {n : Int} {e : EnS.Arc} (g : GoodA r z n e) (h : n ≤ 64) : AtomsOk (aimg e) := fun v m => by
  obtain ⟨g1, g2, g3, _, _, g4, g5, g6⟩ := g
  rcases List.mem_cons.mp m with h' | m
  · rw [h']; exact atom_int g1 g2 h
  rcases List.mem_cons.mp m with h' | m
  · rw [h']; exact atom_str (by omega)
  rcases List.mem_cons.mp m with h' | m
  · rw [h']; exact atom_str (by omega)
  · rw [List.mem_singleton.mp m]; exact atom_int g5 g6 h
theorem EntL.deep {α : Type} {img : α → List V} {H : Hp} {c : Addr} {n : Nat} {xs : List V} {es : List α} (h : EntL img H xs es) (ok : ImgOk img) (hc : ∀ zs, H c ≠ some (.tup zs)) (at_ : ∀ e ∈ es, AtomsOk (img e)) : ∀ x ∈ xs, Deep c (n + 1) H x := fun x m => by
  obtain ⟨i, hi⟩ := List.getElem?_of_mem m
  obtain ⟨e, t, he, rfl, ht⟩ := h.get hi
  exact deep_tup (fun z => hc _ (by rw [← z]; exact ht)) ht (Nat.le_trans (ok e).1 (by decide)) fun v mv => let ⟨a1, a2, a3⟩ := at_ e (List.mem_of_getElem? he) v mv; deep_atom a1 a2 a3
/-- lists in entries -/
theorem lists_lst {H : Hp} {n : Nat} {v : Addr} {vs : List V} {Ls : List (List Addr)} (hv : H v = some (.lst vs)) (l : vs.length ≤ 1000000) (ll : Ls.length = vs.length) (r : ∀ (i : Nat) (x : V) (l : List Addr), vs[i]? = some x → Ls[i]? = some l → ListsD n H x l) : ListsD (n + 1) H (.ref v) (Ls.flatten ++ [v]) :=
  .inr ⟨v, vs, Ls, rfl, l, ll, r, .inl ⟨hv, rfl⟩⟩
theorem flat_nil : ∀ (n : Nat), (List.replicate n ([] : List Addr)).flatten = []
  | 0 => rfl
  | n + 1 => by rw [List.replicate_succ, List.flatten_cons, flat_nil n]; rfl
theorem lists_plain {H : Hp} {n : Nat} {v : V} (h : plainV v = true) : ListsD n H v [] := by cases n <;> exact .inl ⟨h, rfl⟩
theorem lists_ents {α : Type} {img : α → List V} (ok : ImgOk img) {H : Hp} {n : Nat} {xs : List V} {es : List α} (en : EntL img H xs es) (i : Nat) (x : V) (l : List Addr) (ex : xs[i]? = some x) (el : (List.replicate xs.length ([] : List Addr))[i]? = some l) : ListsD (n + 1) H x l := by
  have el : l = [] := List.eq_of_mem_replicate (List.mem_of_getElem? el)
  subst el
  obtain ⟨e, t, he, rfl, ht⟩ := en.get ex
  refine .inr ⟨t, _, List.replicate (img e).length [], rfl, Nat.le_trans (ok e).1 (by decide), List.length_replicate .., fun j a l ea el => ?_, .inr ⟨ht, (flat_nil _).symm⟩⟩
  rw [List.eq_of_mem_replicate (List.mem_of_getElem? el)]
  exact lists_plain ((ok e).2 _ (List.mem_of_getElem? ea))
theorem EntL.lists {α : Type} {img : α → List V} {H : Hp} {n : Nat} {l : Addr} {xs : List V} {es : List α} (en : EntL img H xs es) (ok : ImgOk img) (hl : H l = some (.lst xs)) (le : es.length ≤ 1000000) : ListsD (n + 2) H (.ref l) [l] := by
  have h := lists_lst (n := n + 1) hl (by rw [en.len]; exact le) (List.length_replicate (a := ([] : List Addr)) ..) (lists_ents ok en)
  rw [flat_nil] at h
  exact h
theorem EntL.listsT {α : Type} {img : α → List V} {H : Hp} {n : Nat} {l : Addr} {xs : List V} {es : List α} (en : EntL img H xs es) (ok : ImgOk img) (hl : H l = some (.tup xs)) (le : es.length ≤ 1000000) : ListsD (n + 2) H (.ref l) [] :=
  .inr ⟨l, xs, List.replicate xs.length [], rfl, by rw [en.len]; exact le, List.length_replicate .., lists_ents ok en, .inr ⟨hl, (flat_nil _).symm⟩⟩
/-- of a row that is a list or a tuple: itself at most -/
theorem EntL.listsR {α : Type} {img : α → List V} {H : Hp} {n : Nat} {l : Addr} {xs : List V} {es : List α} (en : EntL img H xs es) (ok : ImgOk img) (hl : H l = some (.lst xs) ∨ H l = some (.tup xs)) (le : es.length ≤ 1000000) : ∃ L, ListsD (n + 2) H (.ref l) L ∧ L.length ≤ 1 ∧ ∀ x ∈ L, x = l := by
  rcases hl with hl | hl
  · exact ⟨_, en.lists ok hl le, Nat.le_refl _, fun x m => List.mem_singleton.mp m⟩
  · exact ⟨_, en.listsT ok hl le, Nat.zero_le _, fun x m => absurd m List.not_mem_nil⟩
/-- unlike places that are taken -/
structure Live (L : List Addr) (H : Hp) : Prop where
  nd : L.Nodup
  old : ∀ x ∈ L, ∃ o, H x = some o
theorem Live.nil {H : Hp} : Live [] H := ⟨List.nodup_nil, fun x m => absurd m List.not_mem_nil⟩
theorem Live.new {L : List Addr} {H : Hp} (h : Live L H) {l : Addr} {o : HO} (n : H l = none) : Live (L ++ [l]) (upd H l o) := by
  refine ⟨List.nodup_append.mpr ⟨h.nd, List.pairwise_singleton .., fun a ha b hb e => ?_⟩, fun x m => ?_⟩
  · rw [List.mem_singleton.mp hb] at e
    obtain ⟨o, q⟩ := h.old a ha
    rw [e, n] at q
    cases q
  · rcases List.mem_append.mp m with m | m
    · obtain ⟨o', q⟩ := h.old x m
      exact ⟨o', by rw [upd_ne (ne_of_none q n)]; exact q⟩
    · rw [List.mem_singleton.mp m]
      exact ⟨_, upd_same⟩
/-! ### machines, told with their places -/
def RowE (K : PySem.W.Frag) {α : Type} (img : α → List V) (H : Hp) (l : Addr) (es : List α) : Prop := ∃ xs, Own.RowAt K H l xs ∧ xs.length ≤ 400 ∧ EntL img H xs es
theorem RowE.same [Tabl] {K : PySem.W.Frag} {α : Type} {img : α → List V} {H H' : Hp} {l : Addr} {es : List α} (h : RowE K img H l es) (s : Same H H') : RowE K img H' l es := by
  obtain ⟨xs, h1, h2, h3⟩ := h
  exact ⟨xs, h1.same s, h2, h3.same s⟩
theorem RowE.lst {K : PySem.W.Frag} {α : Type} {img : α → List V} {H : Hp} {l : Addr} {xs : List V} {es : List α} (h : H l = some (.lst xs)) (en : EntL img H xs es) (le : es.length ≤ 400) : RowE K img H l es := ⟨xs, .inl h, by rw [en.len]; exact le, en⟩
theorem RowE.nil {K : PySem.W.Frag} {α : Type} {img : α → List V} {H : Hp} {l : Addr} (h : Own.KT0 K l) : RowE K img H l [] := ⟨[], .inr (.inr ⟨rfl, h⟩), Nat.zero_le _, .nil⟩
structure GoodM (r z : Str) (n : Int) (be : List (Int × Str)) (ae : List EnS.Arc) (ee : List (Int × Str)) : Prop where
  ar : IsAlpha r
  az : IsAlpha z
  n0 : 0 ≤ n
  n64 : n ≤ 64
  gb : ∀ e ∈ be, GoodP z n e
  ga : ∀ e ∈ ae, GoodA r z n e
  ge : ∀ e ∈ ee, GoodP z n e
structure Srt {α : Type} (lt : α → α → Prop) (ds es : List α) : Prop where
  pw : ds.Pairwise lt
  mem : ∀ e, e ∈ ds ↔ e ∈ es
  len : ds.length ≤ es.length
  l4 : ds.length ≤ 400
theorem Srt.eq {α : Type} {lt : α → α → Prop} {ds fs es : List α} (asym : ∀ a b, lt a b → lt b a → False) (h : Srt lt ds es) (k : Srt lt fs ds) : fs = ds := pw_unique asym k.pw h.pw fun y => k.mem y
/-- the machine at m, with its places and what they hold -/
structure MA (C : Addr) (H : Hp) (m : Addr) (r z : Str) (n : Int) (dx b a e : Addr) (bx ax ex : List V) (bd : List (Int × Str)) (ad : List EnS.Arc) (ed : List (Int × Str)) : Prop where
  ins : H m = some (.ins C dx (mfs r z n b a e))
  hb : H b = some (.lst bx)
  ha : H a = some (.lst ax)
  he : H e = some (.lst ex)
  nb : EntL pimg H bx bd
  na : EntL aimg H ax ad
  ne : EntL pimg H ex ed
section
variable {C : Addr} {H H' G : Hp} {m : Addr} {r z : Str} {n : Int} {dx b a e : Addr} {bx ax ex : List V} {bd : List (Int × Str)} {ad : List EnS.Arc} {ed : List (Int × Str)} {be : List (Int × Str)} {ae : List EnS.Arc} {ee : List (Int × Str)}
theorem MA.same [Tabl] (h : MA C H m r z n dx b a e bx ax ex bd ad ed) (s : Same H H') : MA C H' m r z n dx b a e bx ax ex bd ad ed := ⟨s _ _ h.ins, s _ _ h.hb, s _ _ h.ha, s _ _ h.he, h.nb.same s, h.na.same s, h.ne.same s⟩
theorem MA.butl [Tabl] {L : List Addr} (h : MA C H m r z n dx b a e bx ax ex bd ad ed) (k : ButL L H H') (hb : b ∉ L) (ha : a ∉ L) (he : e ∉ L) : MA C H' m r z n dx b a e bx ax ex bd ad ed := ⟨k.ins h.ins, k.row h.hb hb, k.row h.ha ha, k.row h.he he, h.nb.butl k, h.na.butl k, h.ne.butl k⟩
theorem MA.mach (h : MA C H m r z n dx b a e bx ax ex bd ad ed) (sb : Srt EnS.PLt bd be) (sa : Srt EnS.ALt ad ae) (se : Srt EnS.PLt ed ee) (d1 : b ≠ a) (d2 : b ≠ e) (d3 : a ≠ e) : Mach C H m r z n be ae ee :=
  ⟨dx, b, a, e, h.ins, ⟨bx, bd, h.hb, h.nb, sb.pw, sb.mem, sb.len, sb.l4⟩, ⟨ax, ad, h.ha, h.na, sa.pw, sa.mem, sa.len, sa.l4⟩, ⟨ex, ed, h.he, h.ne, se.pw, se.mem, se.len, se.l4⟩, d1, d2, d3⟩
theorem Mach.places (h : Mach C H m r z n be ae ee) (y : Young C G H m) : ∃ dx b a e bx ax ex bd ad ed, MA C H m r z n dx b a e bx ax ex bd ad ed ∧ Srt EnS.PLt bd be ∧ Srt EnS.ALt ad ae ∧ Srt EnS.PLt ed ee ∧ b ≠ a ∧ b ≠ e ∧ a ≠ e ∧ G b = none ∧ G a = none ∧ G e = none := by
  obtain ⟨dx, b, a, e, hm, ⟨bx, bd, hb, nb, pb, mb, lb, b4⟩, ⟨ax, ad, ha, na, pa, ma, la, a4⟩, ⟨ex, ed, he, ne, pe, me, le, e4⟩, d⟩ := h
  obtain ⟨y1, y2, y3⟩ := y _ _ _ _ _ _ _ hm
  exact ⟨dx, b, a, e, bx, ax, ex, bd, ad, ed, ⟨hm, hb, ha, he, nb, na, ne⟩, ⟨pb, mb, lb, b4⟩, ⟨pa, ma, la, a4⟩, ⟨pe, me, le, e4⟩, d.1, d.2.1, d.2.2, y1, y2, y3⟩
theorem Young.back [Tabl] (s : Same G H) (y : Young C H H' m) : Young C G H' m := fun dx r z n b a e h => let ⟨y1, y2, y3⟩ := y dx r z n b a e h; ⟨s.free y1, s.free y2, s.free y3⟩
end
theorem EntL.butN [Tabl] {α : Type} {img : α → List V} {a : Addr} {H H' : Hp} {xs : List V} {es : List α} (h : EntL img H xs es) (k : But a H H') (hn : ∀ zs, H a ≠ some (.tup zs)) : EntL img H' xs es :=
  Paired.mapP h fun _ _ ⟨t, e, q⟩ => ⟨t, e, k _ _ (fun z => hn _ (by rw [← z]; exact q)) q⟩
theorem Sto.butl [Tabl] {L : List Addr} {H H' : Hp} {a c : Addr} (h : Sto H a c) (k : ButL L H H') (na : a ∉ L) (nc : c ∉ L) : Sto H' a c := by
  obtain ⟨ns, i, b, t, s, h1, h2, h3, h4⟩ := h
  exact ⟨ns, i, b, t, s, k.row h1 na, k.row h2 nc, h3, h4⟩
theorem Sto.some {H : Hp} {a c : Addr} (h : Sto H a c) : H a ≠ none ∧ H c ≠ none := by
  obtain ⟨ns, i, b, t, s, h1, h2, h3, h4⟩ := h
  rw [h1, h2]
  exact ⟨fun e => (by cases e), fun e => (by cases e)⟩
theorem Sto.ntup {H : Hp} {a c : Addr} (h : Sto H a c) (zs : List V) : H a ≠ Option.some (.tup zs) := by
  obtain ⟨ns, i, b, t, s, h1, h2, h3, h4⟩ := h
  rw [h1]
  exact fun e => (by cases e)
theorem EntL.deepRow {α : Type} {img : α → List V} {H : Hp} {c l : Addr} {n : Nat} {xs : List V} {es : List α} (h : EntL img H xs es) (ok : ImgOk img) (hc : ∀ zs, H c ≠ some (.tup zs)) (at_ : ∀ e ∈ es, AtomsOk (img e)) (hl : H l = some (.lst xs) ∨ H l = some (.tup xs)) (ne : l ≠ c) (le : es.length ≤ 1000000) : Deep c (n + 2) H (.ref l) :=
  hl.elim (fun q => deep_lst ne q (by rw [h.len]; exact le) (h.deep ok hc at_)) fun q => deep_tup ne q (by rw [h.len]; exact le) (h.deep ok hc at_)
theorem list3 {α : Type} {xs : List α} (h : xs.length = 3) : ∃ a b c, xs = [a, b, c] := by
  match xs, h with
  | [a, b, c], _ => exact ⟨a, b, c, rfl⟩
/-- a list of three told rows -/
structure Told3 (H : Hp) (v t1 t2 t3 : Addr) (x1 x2 x3 : List V) (bd : List (Int × Str)) (ad : List EnS.Arc) (ed : List (Int × Str)) : Prop where
  hv : H v = some (.lst [.ref t1, .ref t2, .ref t3])
  h1 : H t1 = some (.lst x1)
  h2 : H t2 = some (.lst x2)
  h3 : H t3 = some (.lst x3)
  n1 : EntL pimg H x1 bd
  n2 : EntL aimg H x2 ad
  n3 : EntL pimg H x3 ed
section
variable {H H' : Hp} {v t1 t2 t3 u s1 s2 s3 : Addr} {x1 x2 x3 y1 y2 y3 : List V} {bd : List (Int × Str)} {ad : List EnS.Arc} {ed : List (Int × Str)}
theorem Told3.same [Tabl] (h : Told3 H v t1 t2 t3 x1 x2 x3 bd ad ed) (s : Same H H') : Told3 H' v t1 t2 t3 x1 x2 x3 bd ad ed := ⟨s _ _ h.hv, s _ _ h.h1, s _ _ h.h2, s _ _ h.h3, h.n1.same s, h.n2.same s, h.n3.same s⟩
theorem Told3.butl [Tabl] {L : List Addr} (h : Told3 H v t1 t2 t3 x1 x2 x3 bd ad ed) (k : ButL L H H') (nv : v ∉ L) (n1 : t1 ∉ L) (n2 : t2 ∉ L) (n3 : t3 ∉ L) : Told3 H' v t1 t2 t3 x1 x2 x3 bd ad ed := ⟨k.row h.hv nv, k.row h.h1 n1, k.row h.h2 n2, k.row h.h3 n3, h.n1.butl k, h.n2.butl k, h.n3.butl k⟩
theorem Told3.like {n : Nat} (h : Told3 H v t1 t2 t3 x1 x2 x3 bd ad ed) (k : Told3 H u s1 s2 s3 y1 y2 y3 bd ad ed) (lb : bd.length ≤ 400) (la : ad.length ≤ 400) (le : ed.length ≤ 400) : SameD (n + 3) H (.ref v) (.ref u) :=
  .inr ⟨v, u, _, _, rfl, rfl, .inr ⟨h.hv, k.hv⟩, rfl, by show 3 ≤ 1000000; decide, fun i x y ex ey => by
    match i, ex, ey with
    | 0, rfl, rfl => exact rows_samed pimg_ok h.h1 k.h1 h.n1 k.n1 (by omega)
    | 1, rfl, rfl => exact rows_samed aimg_ok h.h2 k.h2 h.n2 k.n2 (by omega)
    | 2, rfl, rfl => exact rows_samed pimg_ok h.h3 k.h3 h.n3 k.n3 (by omega)⟩
/-- its copy -/
theorem Told3.copied {n : Nat} {x : V} (h : Told3 H v t1 t2 t3 x1 x2 x3 bd ad ed) (k : SameD (n + 3) H x (.ref v)) : ∃ u s1 s2 s3 y1 y2 y3, x = .ref u ∧ Told3 H u s1 s2 s3 y1 y2 y3 bd ad ed := by
  obtain ⟨u, us, rfl, hu, l, r⟩ := samed_lst k h.hv
  obtain ⟨a, b, c, rfl⟩ := list3 l
  obtain ⟨s1, y1, rfl, h1, n1⟩ := samed_ents pimg_ok (r 0 _ _ rfl rfl) h.h1 h.n1
  obtain ⟨s2, y2, rfl, h2, n2⟩ := samed_ents aimg_ok (r 1 _ _ rfl rfl) h.h2 h.n2
  obtain ⟨s3, y3, rfl, h3, n3⟩ := samed_ents pimg_ok (r 2 _ _ rfl rfl) h.h3 h.n3
  exact ⟨u, s1, s2, s3, y1, y2, y3, rfl, hu, h1, h2, h3, n1, n2, n3⟩
/-- apart from a list elsewhere -/
theorem Told3.deep {c : Addr} {n : Nat} {r z : Str} {m : Int} (h : Told3 H v t1 t2 t3 x1 x2 x3 bd ad ed) (hc : ∀ zs, H c ≠ some (.tup zs)) (nv : v ≠ c) (n1 : t1 ≠ c) (n2 : t2 ≠ c) (n3 : t3 ≠ c) (g : GoodM r z m bd ad ed) (lb : bd.length ≤ 400) (la : ad.length ≤ 400) (le : ed.length ≤ 400) : Deep c (n + 3) H (.ref v) :=
  deep_lst nv h.hv (by show 3 ≤ 1000000; decide) fun x mx => by
    rcases List.mem_cons.mp mx with e | mx
    · rw [e]; exact h.n1.deepRow pimg_ok hc (fun e m => goodP_atoms (g.gb e m) g.n64) (.inl h.h1) n1 (by omega)
    rcases List.mem_cons.mp mx with e | mx
    · rw [e]; exact h.n2.deepRow aimg_ok hc (fun e m => goodA_atoms (g.ga e m) g.n64) (.inl h.h2) n2 (by omega)
    · rw [List.mem_singleton.mp mx]; exact h.n3.deepRow pimg_ok hc (fun e m => goodP_atoms (g.ge e m) g.n64) (.inl h.h3) n3 (by omega)
theorem Told3.apart {c : Addr} {n : Nat} (h : Told3 H v t1 t2 t3 x1 x2 x3 bd ad ed) (d : Deep c (n + 1) H (.ref v)) : v ≠ c ∧ t1 ≠ c ∧ t2 ≠ c ∧ t3 ≠ c := by
  obtain ⟨d1, d2⟩ := deep_ref d (.inl h.hv)
  have d2 := d2 n rfl
  exact ⟨d1, (deep_ref (d2 _ List.mem_cons_self) (.inl h.h1)).1, (deep_ref (d2 _ (List.mem_cons_of_mem _ List.mem_cons_self)) (.inl h.h2)).1, (deep_ref (d2 _ (List.mem_cons_of_mem _ (List.mem_cons_of_mem _ List.mem_cons_self))) (.inl h.h3)).1⟩
theorem Told3.lists (h : Told3 H v t1 t2 t3 x1 x2 x3 bd ad ed) (lb : bd.length ≤ 400) (la : ad.length ≤ 400) (le : ed.length ≤ 400) : ListsD 4 H (.ref v) [t1, t2, t3, v] :=
  lists_lst (n := 3) (Ls := [[t1], [t2], [t3]]) h.hv (by show 3 ≤ 1000000; decide) rfl fun i x l ex el => by
    match i, ex, el with
    | 0, rfl, rfl => exact h.n1.lists pimg_ok h.h1 (by omega)
    | 1, rfl, rfl => exact h.n2.lists aimg_ok h.h2 (by omega)
    | 2, rfl, rfl => exact h.n3.lists pimg_ok h.h3 (by omega)
end
theorem GoodM.told {r z : Str} {n : Int} {be bd : List (Int × Str)} {ae ad : List EnS.Arc} {ee ed : List (Int × Str)} (g : GoodM r z n be ae ee) (sb : Srt EnS.PLt bd be) (sa : Srt EnS.ALt ad ae) (se : Srt EnS.PLt ed ee) : GoodM r z n bd ad ed :=
  ⟨g.ar, g.az, g.n0, g.n64, fun e m => g.gb e ((sb.mem e).mp m), fun e m => g.ga e ((sa.mem e).mp m), fun e m => g.ge e ((se.mem e).mp m)⟩
theorem Srt.two {α : Type} {lt : α → α → Prop} {ds fs es : List α} (asym : ∀ a b, lt a b → lt b a → False) (h : Srt lt ds es) (k : Srt lt fs es) : fs = ds := pw_unique asym k.pw h.pw fun y => (k.mem y).trans (h.mem y).symm
/-! a term's head laid open -/
theorem un_seq {t u : TS} {D : Ends} {σ : L2.St} {H : Hp} (h : t { D with nx := u D } σ H) : tSeq t u D σ H := h
theorem un_asg {te : TE} {g : TG} {D : Ends} {σ : L2.St} {H : Hp} (h : te σ H fun x H1 => g x σ H1 D.nx) : tAsg te g D σ H := h
theorem un_drop {te : TE} {D : Ends} {σ : L2.St} {H : Hp} (h : te σ H fun _ H1 => D.nx σ H1) : tDrop te D σ H := h
theorem un_ret {te : TE} {D : Ends} {σ : L2.St} {H : Hp} (h : te σ H D.rt) : tRet te D σ H := h
theorem un_if {c : TT} {t u : TS} {D : Ends} {σ : L2.St} {H : Hp} (h : c σ H fun b H1 => if b = true then t D σ H1 else u D σ H1) : tIfS c t u D σ H := h
theorem un_or {t u : TT} {σ : L2.St} {H : Hp} {Q : Bool → Hp → Prop} (h : t σ H fun c H1 => if c = true then Q true H1 else u σ H1 Q) : tOr t u σ H Q := h
theorem un_not {t : TT} {σ : L2.St} {H : Hp} {Q : Bool → Hp → Prop} (h : t σ H fun c H1 => Q (!c) H1) : tNot t σ H Q := h
theorem un_b {t : TE} {σ : L2.St} {H : Hp} {Q : Bool → Hp → Prop} (h : t σ H fun x H1 => ∃ c, x = .bl c ∧ Q c H1) : tB t σ H Q := h
theorem un_andV {ta tb : TE} {σ : L2.St} {H : Hp} {Q : VK} (h : ta σ H fun x H1 => ∃ c, x = .bl c ∧ if c = true then tb σ H1 Q else Q (.bl false) H1) : tAndV ta tb σ H Q := h
theorem un_call {sp : Sp} {dvs : List V} {E : XK} {t : TA} {σ : L2.St} {H : Hp} {Q : VK} (h : t σ H fun vs H1 => sp (vs ++ dvs) H1 Q E) : tCall sp dvs E t σ H Q := h
theorem un_cons {ta : TE} {tr : TA} {σ : L2.St} {H : Hp} {Q : List V → Hp → Prop} (h : ta σ H fun x H1 => tr σ H1 fun xs H2 => Q (x :: xs) H2) : tCons ta tr σ H Q := h
/-! ### drawn rows -/
/-- the list at l, new since H: entries that are good, at most N -/
def RowN {α : Type} (img : α → List V) (G : α → Prop) (a ca : Addr) (H H' : Hp) (l : Addr) (N : Nat) : Prop := ∃ xs es, H l = none ∧ l ≠ a ∧ l ≠ ca ∧ H' l = some (.lst xs) ∧ EntL img H' xs es ∧ (∀ e ∈ es, G e) ∧ xs.length ≤ N
section
variable {α : Type} {img : α → List V} {G : α → Prop} {a ca l : Addr} {H H' H2 : Hp} {N : Nat}
theorem RowN.but [Tabl] (h : RowN img G a ca H H' l N) (k : But a H' H2) (S : Sto H' a ca) : RowN img G a ca H H2 l N := by
  obtain ⟨xs, es, h1, h2, h3, h4, h5, h6, h7⟩ := h
  exact ⟨xs, es, h1, h2, h3, k _ _ h2 h4, h5.butN k S.ntup, h6, h7⟩
theorem RowN.same [Tabl] (h : RowN img G a ca H H' l N) (k : Same H' H2) : RowN img G a ca H H2 l N := by
  obtain ⟨xs, es, h1, h2, h3, h4, h5, h6, h7⟩ := h
  exact ⟨xs, es, h1, h2, h3, k _ _ h4, h5.same k, h6, h7⟩
theorem RowN.le {M : Nat} (h : RowN img G a ca H H' l N) (k : N ≤ M) : RowN img G a ca H H' l M := by
  obtain ⟨xs, es, h1, h2, h3, h4, h5, h6, h7⟩ := h
  exact ⟨xs, es, h1, h2, h3, h4, h5, h6, by omega⟩
theorem RowN.other [Tabl] {p : Addr} {ys zs : List V} (h : RowN img G a ca H H' l N) (ne : l ≠ p) (hp : H' p = some (.lst ys)) : RowN img G a ca H (upd H' p (.lst zs)) l N := by
  obtain ⟨xs, es, h1, h2, h3, h4, h5, h6, h7⟩ := h
  exact ⟨xs, es, h1, h2, h3, by rw [upd_ne ne]; exact h4, h5.butN (But.put hp) (fun zs e => (by rw [hp] at e; cases e)), h6, h7⟩
theorem RowN.nil (ns : H l = none) (na : l ≠ a) (nc : l ≠ ca) (hl : H' l = some (.lst [])) : RowN img G a ca H H' l 0 := ⟨[], [], ns, na, nc, hl, .nil, fun e m => absurd m List.not_mem_nil, Nat.le_refl _⟩
theorem EntL.snoc {xs : List V} {es : List α} {t : Addr} {e : α} (h : EntL img H xs es) (ht : H t = some (.tup (img e))) : EntL img H (xs ++ [.ref t]) (es ++ [e]) := Paired.snoc h ⟨t, rfl, ht⟩
/-- one entry more -/
theorem RowN.push [Tabl] {t : Addr} {e : α} {xs : List V} (h : RowN img G a ca H H' l N) (hl : H' l = some (.lst xs)) (ht : H' t = some (.tup (img e))) (g : G e) : RowN img G a ca H (upd H' l (.lst (xs ++ [.ref t]))) l (N + 1) := by
  obtain ⟨xs', es, h1, h2, h3, h4, h5, h6, h7⟩ := h
  rw [hl] at h4
  cases h4
  refine ⟨_, es ++ [e], h1, h2, h3, upd_same, (h5.snoc ht).butN (But.put hl) (fun zs e => (by rw [hl] at e; cases e)), fun e' m => ?_, by rw [List.length_append]; exact Nat.succ_le_succ h7⟩
  rcases List.mem_append.mp m with m | m
  · exact h6 e' m
  · rw [List.mem_singleton.mp m]
    exact g
theorem RowN.lt (h : RowN img G a ca H H' l N) (k : N < 1000) : ∃ xs, H' l = some (.lst xs) ∧ xs.length < sizeLine ∧ l ≠ a ∧ H l = none ∧ l ≠ ca ∧ xs.length ≤ N := by
  obtain ⟨xs, es, h1, h2, h3, h4, h5, h6, h7⟩ := h
  exact ⟨xs, h4, Nat.lt_of_le_of_lt h7 (Nat.lt_of_lt_of_le k (by decide)), h2, h1, h3, h7⟩
theorem RowN.ne {β : Type} {img' : β → List V} {G' : β → Prop} {l' : Addr} {M : Nat} {G0 : Hp} (h : RowN img G a ca H H' l N) (n : G0 l' = none) (k : ∀ o, H' l = some o → G0 l = some o) : l ≠ l' := fun e => by
  obtain ⟨xs, es, h1, h2, h3, h4, h5, h6, h7⟩ := h
  have := k _ h4
  rw [e, n] at this
  cases this
end
theorem RowN.weak {α : Type} {img : α → List V} {G G' : α → Prop} {a ca l : Addr} {H H' : Hp} {N : Nat} (h : RowN img G a ca H H' l N) (w : ∀ e, G e → G' e) : RowN img G' a ca H H' l N := by
  obtain ⟨xs, es, h1, h2, h3, h4, h5, h6, h7⟩ := h
  exact ⟨xs, es, h1, h2, h3, h4, h5, fun e m => w e (h6 e m), h7⟩
theorem EntL.sub {α : Type} {img : α → List V} {H : Hp} {xs : List V} {es : List α} (h : EntL img H xs es) : ∀ {ys : List V}, (∀ y ∈ ys, y ∈ xs) → ∃ fs, EntL img H ys fs ∧ ∀ e ∈ fs, e ∈ es
  | [], _ => ⟨[], .nil, fun e m => absurd m List.not_mem_nil⟩
  | y :: ys, s => by
    obtain ⟨fs, h1, h2⟩ := EntL.sub h (ys := ys) fun y' m => s y' (List.mem_cons_of_mem _ m)
    obtain ⟨i, hi⟩ := List.getElem?_of_mem (s y List.mem_cons_self)
    obtain ⟨e, t, he, rfl, ht⟩ := h.get hi
    refine ⟨e :: fs, .cons ⟨t, rfl, ht⟩ h1, fun e' m => ?_⟩
    rcases List.mem_cons.mp m with q | m
    · rw [q]
      exact List.mem_of_getElem? he
    · exact h2 e' m
theorem RowN.rep [Tabl] {α : Type} {img : α → List V} {G : α → Prop} {a ca l q : Addr} {H H' H2 : Hp} {N M : Nat} {ys : List V} (h : RowN img G a ca H H' l N) (S : Sto H' a ca) (k : But a H' H2) (hr : ∀ xs, H' l = some (.lst xs) → (∀ y ∈ ys, y ∈ xs) ∧ ys.length ≤ xs.length + M) (nq : H q = none) (qa : q ≠ a) (qc : q ≠ ca) (hq : H2 q = some (.lst ys)) : RowN img G a ca H H2 q (N + M) := by
  obtain ⟨xs, es, h1, h2, h3, h4, h5, h6, h7⟩ := h
  obtain ⟨m, l⟩ := hr xs h4
  obtain ⟨fs, e1, e2⟩ := (h5.butN k S.ntup).sub m
  exact ⟨ys, fs, nq, qa, qc, hq, e1, fun e m => h6 e (e2 e m), by omega⟩
/-- the j-th of three rows -/
def Rk (r z : Str) (n : Int) (a ca : Addr) (H : Hp) (δ : Nat) : Nat → Hp → Addr → Prop
  | 0 => fun H' l => RowN pimg (GoodP z n) a ca H H' l (6 + δ)
  | 1 => fun H' l => RowN aimg (GoodA r z n) a ca H H' l (138 + δ)
  | _ => fun H' l => RowN pimg (GoodP z n) a ca H H' l (6 + δ)
section
variable {r z : Str} {n : Int} {a ca : Addr} {H H' H2 : Hp} {δ : Nat} {l : Addr}
theorem Rk.but [Tabl] (k : But a H' H2) (S : Sto H' a ca) : ∀ {j : Nat}, Rk r z n a ca H δ j H' l → Rk r z n a ca H δ j H2 l
  | 0, h => RowN.but h k S
  | 1, h => RowN.but h k S
  | _ + 2, h => RowN.but h k S
theorem Rk.other [Tabl] {p : Addr} {ys zs : List V} (ne : l ≠ p) (hp : H' p = some (.lst ys)) : ∀ {j : Nat}, Rk r z n a ca H δ j H' l → Rk r z n a ca H δ j (upd H' p (.lst zs)) l
  | 0, h => RowN.other h ne hp
  | 1, h => RowN.other h ne hp
  | _ + 2, h => RowN.other h ne hp
theorem Rk.rep [Tabl] {q : Addr} {M : Nat} {ys : List V} (S : Sto H' a ca) (k : But a H' H2) (hr : ∀ xs, H' l = some (.lst xs) → (∀ y ∈ ys, y ∈ xs) ∧ ys.length ≤ xs.length + M) (nq : H q = none) (qa : q ≠ a) (qc : q ≠ ca) (hq : H2 q = some (.lst ys)) : ∀ {j : Nat}, Rk r z n a ca H 0 j H' l → Rk r z n a ca H M j H2 q
  | 0, h => RowN.rep (N := 6) h S k hr nq qa qc hq
  | 1, h => RowN.rep (N := 138) h S k hr nq qa qc hq
  | _ + 2, h => RowN.rep (N := 6) h S k hr nq qa qc hq
theorem Rk.row : ∀ {j : Nat}, Rk r z n a ca H δ j H' l → H l = none ∧ l ≠ a ∧ l ≠ ca ∧ ∃ xs, H' l = some (.lst xs) ∧ xs.length ≤ 138 + δ
  | 0, ⟨xs, es, h1, h2, h3, h4, h5, h6, h7⟩ => ⟨h1, h2, h3, xs, h4, by omega⟩
  | 1, ⟨xs, es, h1, h2, h3, h4, h5, h6, h7⟩ => ⟨h1, h2, h3, xs, h4, by omega⟩
  | _ + 2, ⟨xs, es, h1, h2, h3, h4, h5, h6, h7⟩ => ⟨h1, h2, h3, xs, h4, by omega⟩
end
/-- three rows -/
structure Three [Tabl] (r z : Str) (n : Int) (a ca : Addr) (H H' : Hp) (hd lk st : Addr) : Prop where
  b : But a H H'
  s : Sto H' a ca
  r1 : RowN pimg (GoodP z n) a ca H H' hd 6
  r2 : RowN aimg (GoodA r z n) a ca H H' lk 138
  r3 : RowN pimg (GoodP z n) a ca H H' st 6
  n1 : hd ≠ lk
  n2 : hd ≠ st
  n3 : lk ≠ st
theorem Three.but [Tabl] {r z : Str} {n : Int} {a ca : Addr} {H H' H2 : Hp} {hd lk st : Addr} (h : Three r z n a ca H H' hd lk st) (k : But a H' H2) (S : Sto H2 a ca) : Three r z n a ca H H2 hd lk st :=
  ⟨h.b.trans k, S, h.r1.but k h.s, h.r2.but k h.s, h.r3.but k h.s, h.n1, h.n2, h.n3⟩
theorem RowN.some {α : Type} {img : α → List V} {G : α → Prop} {a ca l : Addr} {H H' : Hp} {N : Nat} (h : RowN img G a ca H H' l N) {p : Addr} (n : H' p = none) : l ≠ p := fun e => by
  obtain ⟨xs, es, h1, h2, h3, h4, h5, h6, h7⟩ := h
  rw [e, n] at h4
  cases h4
/-- the drawn parts of a machine -/
structure PD (a : Addr) (H : Hp) (p : Addr) (r z : Str) (n : Nat) (be : List (Int × Str)) (ae : List EnS.Arc) (ee : List (Int × Str)) (b c e : Addr) (bx ax ex : List V) : Prop where
  g : GoodM r z n be ae ee
  hp : H p = some (.lst [.str r, .str z, .int n, .ref b, .ref c, .ref e])
  hb : H b = some (.lst bx)
  hc : H c = some (.lst ax)
  he : H e = some (.lst ex)
  lb : bx.length ≤ 400
  la : ax.length ≤ 400
  le : ex.length ≤ 400
  eb : EntL pimg H bx be
  ea : EntL aimg H ax ae
  ee' : EntL pimg H ex ee
  pa : p ≠ a
  ba : b ≠ a
  ca : c ≠ a
  na : e ≠ a
section
variable {a p b c e : Addr} {H H' : Hp} {r z : Str} {n : Nat} {be : List (Int × Str)} {ae : List EnS.Arc} {ee : List (Int × Str)} {bx ax ex : List V}
theorem PD.but [Tabl] {s : Addr} (h : PD a H p r z n be ae ee b c e bx ax ex) (k : But a H H') (S : Sto H a s) : PD a H' p r z n be ae ee b c e bx ax ex :=
  ⟨h.g, k _ _ h.pa h.hp, k _ _ h.ba h.hb, k _ _ h.ca h.hc, k _ _ h.na h.he, h.lb, h.la, h.le, h.eb.butN k S.ntup, h.ea.butN k S.ntup, h.ee'.butN k S.ntup, h.pa, h.ba, h.ca, h.na⟩
theorem PD.same [Tabl] (h : PD a H p r z n be ae ee b c e bx ax ex) (k : Same H H') : PD a H' p r z n be ae ee b c e bx ax ex :=
  ⟨h.g, k _ _ h.hp, k _ _ h.hb, k _ _ h.hc, k _ _ h.he, h.lb, h.la, h.le, h.eb.same k, h.ea.same k, h.ee'.same k, h.pa, h.ba, h.ca, h.na⟩
theorem PD.parts (h : PD a H p r z n be ae ee b c e bx ax ex) : Parts H p r z n be ae ee :=
  ⟨b, c, e, bx, ax, ex, h.hp, h.hb, h.hc, h.he, h.g.ar, h.g.az, h.g.n0, h.g.n64, h.lb, h.la, h.le, h.eb, h.ea, h.ee', h.g.gb, h.g.ga, h.g.ge⟩
theorem MA.but [Tabl] {C m dx u v w s : Addr} {z' : Str} {m' : Int} {bd : List (Int × Str)} {ad : List EnS.Arc} {ed : List (Int × Str)} (h : MA C H m r z' m' dx u v w bx ax ex bd ad ed) (k : But a H H') (S : Sto H a s) (h1 : u ≠ a) (h2 : v ≠ a) (h3 : w ≠ a) : MA C H' m r z' m' dx u v w bx ax ex bd ad ed := by
  have hm : m ≠ a := fun e => by
    obtain ⟨ns, i, b, t, x, q, _⟩ := S
    have := h.ins
    rw [e, q] at this
    cases this
  exact ⟨k _ _ hm h.ins, k _ _ h1 h.hb, k _ _ h2 h.ha, k _ _ h3 h.he, h.nb.butN k S.ntup, h.na.butN k S.ntup, h.ne.butN k S.ntup⟩
end
end Lb

namespace Lb
open PySem PySem.Spec PyProof.Rows L2
/-! ### what is refused -/
/-- an error of the class at C with those fields, at any later heap -/
def RaisedF [Tabl] (H : Hp) (C : Addr) (fs : List (Str × V)) (E : XK) : Prop := ∀ (d : Addr) (H1 H' : Hp), Same H H1 → H1 d = none → H' = upd H1 d (.xd fs) → E (.ref C) (some d) H'
theorem RaisedF.same [Tabl] {H H1 : Hp} {C : Addr} {fs : List (Str × V)} {E : XK} (r : RaisedF H C fs E) (s : Same H H1) : RaisedF H1 C fs E := fun d H2 H' s2 n e => r d H2 H' (s.trans s2) n e
/-- what is wrong with a row of entries: it is none, it is too long, one of it is wrong -/
inductive Flt where
  | shape
  | large
  | at (k : Nat)
def Flt.cls (cE cL : Addr) : Flt → Addr
  | .large => cL
  | _ => cE
def Flt.fs (pl : Str) : Flt → List (Str × V)
  | .shape => [("index", .non), ("place", .str pl)]
  | .large => [("limit", .int 400), ("what", .str pl)]
  | .at k => [("index", .int (k : Nat)), ("place", .str pl)]
def FltAt (K : PySem.W.Frag) (Ok : Hp → V → Prop) (H : Hp) (v : V) : Flt → Prop
  | .shape => plainV v = true
  | .large => ∃ p xs, v = .ref p ∧ Own.RowAt K H p xs ∧ 400 < xs.length ∧ xs.length ≤ 1000000
  | .at k => ∃ p xs x, v = .ref p ∧ Own.RowAt K H p xs ∧ xs.length ≤ 400 ∧ xs[k]? = some x ∧ ¬ Ok H x ∧ ∀ j y, j ≤ k → xs[j]? = some y → (j < k → Ok H y) ∧ Shal H y ∧ Inner H y
theorem shal_row {H : Hp} {t : Addr} (h : Shal H (.ref t)) : ∃ xs, H t = some (.lst xs) ∨ H t = some (.tup xs) := by
  rcases h with ⟨x, e, _⟩ | e | ⟨b, e⟩ | ⟨i, e⟩ | ⟨p, ys, e, o⟩
  · cases e
  · cases e
  · cases e
  · cases e
  · cases e
    exact ⟨ys, o⟩
theorem tup_back [Tabl] {H H' : Hp} {t : Addr} {xs : List V} (s : Same H H') (h : Shal H (.ref t)) (k : H' t = some (.tup xs)) : H t = some (.tup xs) := by
  obtain ⟨ys, o | o⟩ := shal_row h
  · rw [s _ _ o] at k
    cases k
  · rw [s _ _ o] at k
    cases k
    exact o
theorem PairV.back [Tabl] {H H' : Hp} {z : Str} {n : Int} {v : V} (s : Same H H') (sh : Shal H v) (h : PairV H' z n v) : PairV H z n v := by
  obtain ⟨t, i, x, rfl, ht, r⟩ := h
  exact ⟨t, i, x, rfl, tup_back s sh ht, r⟩
theorem PairV.same [Tabl] {H H' : Hp} {z : Str} {n : Int} {v : V} (s : Same H H') (h : PairV H z n v) : PairV H' z n v := by
  obtain ⟨t, i, x, rfl, ht, r⟩ := h
  exact ⟨t, i, x, rfl, s _ _ ht, r⟩
theorem ArcV.back [Tabl] {H H' : Hp} {r z : Str} {n : Int} {v : V} (s : Same H H') (sh : Shal H v) (h : ArcV H' r z n v) : ArcV H r z n v := by
  obtain ⟨t, i, l, x, j, rfl, ht, q⟩ := h
  exact ⟨t, i, l, x, j, rfl, tup_back s sh ht, q⟩
theorem ArcV.same [Tabl] {H H' : Hp} {r z : Str} {n : Int} {v : V} (s : Same H H') (h : ArcV H r z n v) : ArcV H' r z n v := by
  obtain ⟨t, i, l, x, j, rfl, ht, q⟩ := h
  exact ⟨t, i, l, x, j, rfl, s _ _ ht, q⟩
/-- lists and tuples stand -/
structure Kt (H H' : Hp) : Prop where
  l : ∀ t xs, H t = some (.lst xs) → H' t = some (.lst xs)
  t : ∀ t xs, H t = some (.tup xs) → H' t = some (.tup xs)
theorem Kt.ins [Tabl] {m C dx : Addr} {fs : List (Str × V)} {H H' : Hp} (k : But m H H') (hm : H m = some (.ins C dx fs)) : Kt H H' :=
  ⟨fun t xs h => k _ _ (fun e => by rw [e, hm] at h; cases h) h, fun t xs h => k _ _ (fun e => by rw [e, hm] at h; cases h) h⟩
section
variable {H H' : Hp} {v : V}
theorem Shal.kt (h : Shal H v) (k : Kt H H') : Shal H' v := by
  rcases h with h | h | h | h | ⟨p, ys, e, o⟩
  · exact .inl h
  · exact .inr (.inl h)
  · exact .inr (.inr (.inl h))
  · exact .inr (.inr (.inr (.inl h)))
  · exact .inr (.inr (.inr (.inr ⟨p, ys, e, o.imp (k.l _ _) (k.t _ _)⟩)))
theorem kt_back {t : Addr} {xs : List V} (k : Kt H H') (h : Shal H (.ref t)) (g : H' t = some (.tup xs)) : H t = some (.tup xs) := by
  obtain ⟨ys, o | o⟩ := shal_row h
  · rw [k.l _ _ o] at g
    cases g
  · rw [k.t _ _ o] at g
    cases g
    exact o
theorem Inner.kt (sh : Shal H v) (h : Inner H v) (k : Kt H H') : Inner H' v := fun t xs e ht y hy => by
  subst e
  exact (h t xs rfl (kt_back k sh ht) y hy).kt k
theorem PairV.kt {z : Str} {n : Int} (k : Kt H H') (sh : Shal H v) : PairV H' z n v ↔ PairV H z n v := by
  constructor
  · rintro ⟨t, i, x, rfl, ht, r⟩
    exact ⟨t, i, x, rfl, kt_back k sh ht, r⟩
  · rintro ⟨t, i, x, rfl, ht, r⟩
    exact ⟨t, i, x, rfl, k.t _ _ ht, r⟩
theorem ArcV.kt {r z : Str} {n : Int} (k : Kt H H') (sh : Shal H v) : ArcV H' r z n v ↔ ArcV H r z n v := by
  constructor
  · rintro ⟨t, i, l, x, j, rfl, ht, q⟩
    exact ⟨t, i, l, x, j, rfl, kt_back k sh ht, q⟩
  · rintro ⟨t, i, l, x, j, rfl, ht, q⟩
    exact ⟨t, i, l, x, j, rfl, k.t _ _ ht, q⟩
theorem RowAt.kt {K : PySem.W.Frag} {p : Addr} {xs : List V} (h : Own.RowAt K H p xs) (k : Kt H H') : Own.RowAt K H' p xs := h.imp (k.l _ _) fun h => h.imp (k.t _ _) id
theorem FltAt.kt {K : PySem.W.Frag} {Ok : Hp → V → Prop} (ok : ∀ x, Shal H x → (Ok H' x ↔ Ok H x)) (k : Kt H H') : ∀ {f : Flt}, FltAt K Ok H v f → FltAt K Ok H' v f
  | .shape, h => h
  | .large, ⟨p, xs, e, h, l⟩ => ⟨p, xs, e, RowAt.kt h k, l⟩
  | .at j, ⟨p, xs, x, e, h, l, hx, bad, bef⟩ => by
    refine ⟨p, xs, x, e, RowAt.kt h k, l, hx, fun o => bad ((ok x (bef j x (Nat.le_refl _) hx).2.1).mp o), fun i y hi hy => ?_⟩
    obtain ⟨b1, b2, b3⟩ := bef i y hi hy
    exact ⟨fun z => (ok y b2).mpr (b1 z), b2.kt k, b3.kt b2 k⟩
end
/-- what is wrong with what a machine is made of -/
inductive MF where
  | read
  | write
  | size
  | begins (f : Flt)
  | arcs (f : Flt)
  | ends (f : Flt)
def MF.cls (cL cN cE cT : Addr) : MF → Addr
  | .read => cL
  | .write => cL
  | .size => cN
  | .begins f => f.cls cE cT
  | .arcs f => f.cls cE cT
  | .ends f => f.cls cE cT
def MF.fs (rv zv nv : V) : MF → List (Str × V)
  | .read => [("value", rv)]
  | .write => [("value", zv)]
  | .size => [("value", nv)]
  | .begins f => f.fs (Str.ofString "begins")
  | .arcs f => f.fs (Str.ofString "arcs")
  | .ends f => f.fs (Str.ofString "ends")
def Base (rv zv nv : V) (r z : Str) (n : Int) : Prop := rv = .str r ∧ zv = .str z ∧ nv = .int n ∧ IsAlpha r ∧ IsAlpha z ∧ 0 ≤ n ∧ n ≤ 64
def MFAt (K : PySem.W.Frag) (H : Hp) (rv zv nv bv av ev : V) : MF → Prop
  | .read => Shal H rv ∧ ¬ AlphaV rv
  | .write => (∃ r, rv = .str r ∧ IsAlpha r) ∧ Shal H zv ∧ ¬ AlphaV zv
  | .size => (∃ r, rv = .str r ∧ IsAlpha r) ∧ (∃ z, zv = .str z ∧ IsAlpha z) ∧ Shal H nv ∧ inR nv 0 64 = false
  | .begins f => ∃ r z n, Base rv zv nv r z n ∧ FltAt K (fun H v => PairV H z n v) H bv f
  | .arcs f => ∃ r z n b be, Base rv zv nv r z n ∧ bv = .ref b ∧ RowE K pimg H b be ∧ (∀ e ∈ be, GoodP z n e) ∧ FltAt K (fun H v => ArcV H r z n v) H av f
  | .ends f => ∃ r z n b be a ae, Base rv zv nv r z n ∧ bv = .ref b ∧ RowE K pimg H b be ∧ (∀ e ∈ be, GoodP z n e) ∧ av = .ref a ∧ RowE K aimg H a ae ∧ (∀ e ∈ ae, GoodA r z n e) ∧ FltAt K (fun H v => PairV H z n v) H ev f
theorem RowE.kt {K : PySem.W.Frag} {α : Type} {img : α → List V} {H H' : Hp} {l : Addr} {es : List α} (h : RowE K img H l es) (k : Kt H H') : RowE K img H' l es := by
  obtain ⟨xs, h1, h2, h3⟩ := h
  exact ⟨xs, RowAt.kt h1 k, h2, Paired.mapP h3 fun _ _ ⟨t, e, q⟩ => ⟨t, e, k.t _ _ q⟩⟩
theorem MFAt.kt {K : PySem.W.Frag} {H H' : Hp} {rv zv nv bv av ev : V} (k : Kt H H') : ∀ {f : MF}, MFAt K H rv zv nv bv av ev f → MFAt K H' rv zv nv bv av ev f
  | .read, ⟨h, b⟩ => ⟨h.kt k, b⟩
  | .write, ⟨a, h, b⟩ => ⟨a, h.kt k, b⟩
  | .size, ⟨a, c, h, b⟩ => ⟨a, c, h.kt k, b⟩
  | .begins f, ⟨r, z, n, b, h⟩ => ⟨r, z, n, b, h.kt (fun _ s => PairV.kt k s) k⟩
  | .arcs f, ⟨r, z, n, b, be, h1, h2, h3, h4, h⟩ => ⟨r, z, n, b, be, h1, h2, h3.kt k, h4, h.kt (fun _ s => ArcV.kt k s) k⟩
  | .ends f, ⟨r, z, n, b, be, a, ae, h1, h2, h3, h4, h5, h6, h7, h⟩ => ⟨r, z, n, b, be, a, ae, h1, h2, h3.kt k, h4, h5, h6.kt k, h7, h.kt (fun _ s => PairV.kt k s) k⟩
/-- it is refused with that -/
def RefusedM [Tabl] (m : Addr) (H : Hp) (C : Addr) (fs : List (Str × V)) (E : XK) : Prop := ∀ (d : Addr) (H1 H' : Hp), But m H H1 → H1 d = none → H' = upd H1 d (.xd fs) → E (.ref C) (some d) H'
theorem RefusedM.raisedF [Tabl] {m C : Addr} {H H1 : Hp} {fs : List (Str × V)} {E : XK} (r : RefusedM m H C fs E) (k : But m H H1) : RaisedF H1 C fs E := fun d H2 H' s n e => r d H2 H' (k.trans (But.same s)) n e
/-- drawn entries, also over no states -/
def EP (z : Str) (n : Int) (e : Int × Str) : Prop := 0 ≤ e.1 ∧ e.1 ≤ 1000 ∧ (1 ≤ n → e.1 ≤ n - 1) ∧ Over z e.2 ∧ e.2.length ≤ 400
def EA (r z : Str) (n : Int) (e : EnS.Arc) : Prop := 0 ≤ e.1 ∧ e.1 ≤ 1000 ∧ (1 ≤ n → e.1 ≤ n - 1) ∧ e.2.1.length = 1 ∧ Over r e.2.1 ∧ Over z e.2.2.1 ∧ e.2.2.1.length ≤ 100 ∧ 0 ≤ e.2.2.2 ∧ e.2.2.2 ≤ 1000 ∧ (1 ≤ n → e.2.2.2 ≤ n - 1)
theorem EP.good {z : Str} {n : Int} {e : Int × Str} (h : EP z n e) (k : 1 ≤ n) : GoodP z n e := ⟨h.1, h.2.2.1 k, h.2.2.2.1, by have := h.2.2.2.2; omega⟩
theorem EA.good {r z : Str} {n : Int} {e : EnS.Arc} (h : EA r z n e) (k : 1 ≤ n) : GoodA r z n e := by
  obtain ⟨h1, h2, h3, h4, h5, h6, h7, h8, h9, h10⟩ := h
  exact ⟨h1, h3 k, h4, h5, h6, by omega, h8, h10 k⟩
theorem lookup2 {k j : Str} {u v : V} (h : (k == j) = false) : List.lookup k [(j, u), (k, v)] = some v := by
  rw [List.lookup_cons, h]
  show List.lookup k [(k, v)] = some v
  rw [List.lookup_cons, beq_self_eq_true]
/-! ### wrong texts -/
theorem not_over {z x : Str} {c : Nat} (hc : c ∈ cs x) (h : c ∉ cs z) : ¬ Over z x := fun o => h (o c hc)
theorem low_out {z : Str} (al : IsAlpha z) {c : Nat} (h : c < 97 ∨ 122 < c) : c ∉ cs z := fun m => by
  have := al.low c m
  omega
theorem up_out : ∀ c, c < 128 → 97 ≤ c → c ≤ 122 → ∃ d, Txt.upper ⟨#[c]⟩ = ⟨#[d]⟩ ∧ d < 97 := fun c h1 h2 h3 => by
  have e := PyProof.Rows.upper_ascii (x := ⟨#[c]⟩) (fun d m => by rw [show d = c from List.mem_singleton.mp m]; exact h1)
  refine ⟨PyProof.Rows.up1 c, by rw [e]; simp, ?_⟩
  have key : ∀ c, c < 123 → 97 ≤ c → PyProof.Rows.up1 c < 97 := by decide +kernel
  exact key c (by omega) h2
theorem Deep.shal_in {a : Addr} {H : Hp} {n : Nat} {v : V} (h : Deep a n H v) : Inner H v := fun t xs e ht y hy => by
  subst e
  cases n with
  | zero =>
    rcases h with ⟨pl, _⟩ | ⟨p, ys, e, _, o, _, r⟩
    · cases pl
    · cases e
      have := same_row o (.inr ht)
      subst this
      exact (r y hy).elim
  | succ n =>
    rcases h with ⟨pl, _⟩ | ⟨p, ys, e, _, o, _, r⟩
    · cases pl
    · cases e
      have := same_row o (.inr ht)
      subst this
      exact (r y hy).shal
/-- atoms in a list or a tuple of one -/
theorem deep_one {a p : Addr} {H : Hp} {x : V} (h : H p = some (.lst [x]) ∨ H p = some (.tup [x])) (ne : p ≠ a) (d : ∀ n, Deep a n H x) {n : Nat} : Deep a (n + 1) H (.ref p) :=
  .inr ⟨p, [x], rfl, ne, h, by show 1 ≤ 1000000; decide, fun y m => by rw [List.mem_singleton.mp m]; exact d n⟩
/-! ### the flat keys of entries -/
def okeyP (i : Int) (x : Str) : PyData := .tuple [.int i, .int ((x.length : Nat) : Int), .str x]
def okeyA (i : Int) (l x : Str) (j : Int) : PyData := .tuple [.int i, .str l, .int ((x.length : Nat) : Int), .str x, .int j]
theorem kLt_self (x : Str) : MinQ.kLt x x = false := by
  cases h : MinQ.kLt x x with
  | false => rfl
  | true => exact (bef_irrefl (MinQ.kLt_true.mp h)).elim
theorem lt_okeyP (i : Int) (x : Str) (j : Int) (y : Str) : PySem.W.dataLt (okeyP i x) (okeyP j y) = PySem.W.dataLt (EnS.pkey i x) (EnS.pkey j y) := by
  unfold okeyP EnS.pkey
  rw [PySem.W.dataLt_tuple, PySem.W.dataLt_cons (EnS.alike_ii _ _), PySem.W.dataLt_cons (EnS.alike_ii _ _), PySem.W.dataLt_cons (EnS.alike_ss _ _), PySem.W.dataLt_pair (EnS.alike_ii _ _) (EnS.alike_w _ _), EnS.lt_w, PySem.W.dataLt_int, PySem.W.dataLt_int, PySem.W.dataLt_str]
  by_cases hi : i = j
  · rw [if_pos ((EnS.eqv_ii _ _).mpr hi), if_pos ((EnS.eqv_ii _ _).mpr hi)]
    by_cases hx : x = y
    · subst hx
      rw [if_pos ((EnS.eqv_ii _ _).mpr rfl), if_pos ((EnS.eqv_ss _ _).mpr rfl), if_pos ((EnS.eqv_w _ _).mpr rfl)]
      rfl
    · rw [if_neg (fun z => hx ((EnS.eqv_w _ _).mp z)), if_neg (fun z => hx ((EnS.eqv_ss _ _).mp z))]
      unfold MinQ.kLt
      by_cases h : x.length = y.length
      · rw [if_pos ((EnS.eqv_ii _ _).mpr (by rw [h])), if_pos h]
      · rw [if_neg (fun z => h (by have := (EnS.eqv_ii _ _).mp z; omega)), if_neg h]
        exact decide_eq_decide.mpr (by omega)
  · rw [if_neg (fun z => hi ((EnS.eqv_ii _ _).mp z)), if_neg (fun z => hi ((EnS.eqv_ii _ _).mp z))]
theorem lt_okeyA (i : Int) (l x : Str) (j : Int) (i' : Int) (l' x' : Str) (j' : Int) : PySem.W.dataLt (okeyA i l x j) (okeyA i' l' x' j') = PySem.W.dataLt (EnS.akey i l x j) (EnS.akey i' l' x' j') := by
  unfold okeyA EnS.akey
  rw [PySem.W.dataLt_tuple, PySem.W.dataLt_cons (EnS.alike_ii _ _), PySem.W.dataLt_cons (EnS.alike_ss _ _), PySem.W.dataLt_cons (EnS.alike_ii _ _), PySem.W.dataLt_cons (EnS.alike_ss _ _), PySem.W.dataLt_cons (EnS.alike_ii _ _), PySem.W.dataLt_tuple, PySem.W.dataLt_cons (EnS.alike_ii _ _), PySem.W.dataLt_cons (EnS.alike_ss _ _), PySem.W.dataLt_cons (EnS.alike_w _ _), PySem.W.dataLt_cons (EnS.alike_ii _ _), EnS.lt_w]
  by_cases hi : i = i'
  case neg => rw [if_neg (fun z => hi ((EnS.eqv_ii _ _).mp z)), if_neg (fun z => hi ((EnS.eqv_ii _ _).mp z))]
  rw [if_pos ((EnS.eqv_ii _ _).mpr hi), if_pos ((EnS.eqv_ii _ _).mpr hi)]
  by_cases hl : l = l'
  case neg => rw [if_neg (fun z => hl ((EnS.eqv_ss _ _).mp z)), if_neg (fun z => hl ((EnS.eqv_ss _ _).mp z))]
  rw [if_pos ((EnS.eqv_ss _ _).mpr hl), if_pos ((EnS.eqv_ss _ _).mpr hl)]
  by_cases hx : x = x'
  · subst hx
    rw [if_pos ((EnS.eqv_ii _ _).mpr rfl), if_pos ((EnS.eqv_ss _ _).mpr rfl), if_pos ((EnS.eqv_w _ _).mpr rfl)]
  · rw [if_neg (fun z => hx ((EnS.eqv_w _ _).mp z)), if_neg (fun z => hx ((EnS.eqv_ss _ _).mp z)), PySem.W.dataLt_int, PySem.W.dataLt_str]
    unfold MinQ.kLt
    by_cases h : x.length = x'.length
    · rw [if_pos ((EnS.eqv_ii _ _).mpr (by rw [h])), if_pos h]
    · rw [if_neg (fun z => h (by have := (EnS.eqv_ii _ _).mp z; omega)), if_neg h]
      exact decide_eq_decide.mpr (by omega)
def relO (H : Hp) (v : V) (d : PyData) : Prop := (∃ (t : Addr) (i : Int) (x : Str), v = .ref t ∧ H t = some (.tup [.int i, .str x]) ∧ x.length ≤ 1000000 ∧ d = okeyP i x) ∨
  ∃ (t : Addr) (i : Int) (l x : Str) (j : Int), v = .ref t ∧ H t = some (.tup [.int i, .str l, .str x, .int j]) ∧ x.length ≤ 1000000 ∧ d = okeyA i l x j
theorem relO_same [Tabl] (H H' : Hp) (x : V) (d : PyData) (s : Same H H') (h : relO H x d) : relO H' x d := by
  rcases h with ⟨t, i, x, e, ht, le, ed⟩ | ⟨t, i, l, x, j, e, ht, le, ed⟩
  · exact .inl ⟨t, i, x, e, s _ _ ht, le, ed⟩
  · exact .inr ⟨t, i, l, x, j, e, s _ _ ht, le, ed⟩
theorem alike_okeyP (i : Int) (x : Str) (j : Int) (y : Str) : PySem.W.alike (okeyP i x) (okeyP j y) = true := by simp [okeyP, PySem.W.alike, PySem.W.alikeAll]
theorem alike_okeyA (i : Int) (l x : Str) (j : Int) (i' : Int) (l' x' : Str) (j' : Int) : PySem.W.alike (okeyA i l x j) (okeyA i' l' x' j') = true := by simp [okeyA, PySem.W.alike, PySem.W.alikeAll]
theorem depth_okeyP (i : Int) (x : Str) : (okeyP i x).depth ≤ 16 := by simp [okeyP, PyData.depth, PyData.depthAll]
theorem depth_okeyA (i : Int) (l x : Str) (j : Int) : (okeyA i l x j).depth ≤ 16 := by simp [okeyA, PyData.depth, PyData.depthAll]
theorem op_neDK {X : Cx} (K : PySem.W.Frag) (h : X.K = K) (hu : X.A.units + 64 < cLine) : OpR X (compareOp .NotEq) (rNeD K) := by
  rw [← h]
  exact op_neD hu
/-! ### sorted, and each once -/
def kd : L2.Key → PyData
  | .inl i => .int i
  | .inr x => .str x
def kdata (k : List L2.Key) : PyData := .tuple (k.map kd)
theorem eqv_kd : ∀ a b : L2.Key, PyData.eqv (kd a) (kd b) = true ↔ a = b
  | .inl i, .inl j => (EnS.eqv_ii i j).trans ⟨fun h => by rw [h], fun h => by cases h; rfl⟩
  | .inr x, .inr y => (EnS.eqv_ss x y).trans ⟨fun h => by rw [h], fun h => by cases h; rfl⟩
  | .inl i, .inr y => ⟨fun h => by simp [kd, PyData.eqv] at h, fun h => by cases h⟩
  | .inr x, .inl j => ⟨fun h => by simp [kd, PyData.eqv] at h, fun h => by cases h⟩
theorem eqv_kall : ∀ a b : List L2.Key, PyData.eqvAll (a.map kd) (b.map kd) = true ↔ a = b
  | [], [] => ⟨fun _ => rfl, fun _ => by simp [PyData.eqvAll]⟩
  | [], b :: bs => ⟨fun h => by simp [PyData.eqvAll] at h, fun h => by cases h⟩
  | a :: as, [] => ⟨fun h => by simp [PyData.eqvAll] at h, fun h => by cases h⟩
  | a :: as, b :: bs => by
    rw [List.map_cons, List.map_cons, PyData.eqvAll, Bool.and_eq_true, eqv_kd, eqv_kall as bs]
    exact ⟨fun ⟨h1, h2⟩ => by rw [h1, h2], fun h => by cases h; exact ⟨rfl, rfl⟩⟩
theorem eqv_kdata (a b : List L2.Key) : PyData.eqv (kdata a) (kdata b) = true ↔ a = b := by
  unfold kdata
  rw [PyData.eqv]
  exact eqv_kall a b
theorem dp_kall {K : PySem.W.Frag} {H : Hp} : ∀ k : List L2.Key, DpAll K H (k.map kV) (k.map kd)
  | [] => .nil
  | .inl i :: k => .cons (.int i) (dp_kall k)
  | .inr x :: k => .cons (.str x) (dp_kall k)
theorem dp_kdata {K : PySem.W.Frag} {H : Hp} {t : Addr} {k : List L2.Key} (h : H t = some (.tup (kimg k))) : Dp K H (.ref t) (kdata k) := .tup (.inl (.inl h)) (dp_kall k)
/-- the order of keys -/
def KLt (k k' : List L2.Key) : Prop := (∃ e f, k = ppk e ∧ k' = ppk f ∧ EnS.PLt e f) ∨ ∃ e f, k = apk e ∧ k' = apk f ∧ EnS.ALt e f
theorem ppk_apk {e : Int × Str} {f : EnS.Arc} (h : ppk e = apk f) : False := by
  have := congrArg List.length h
  cases this
theorem klt_asym (a b : List L2.Key) (h : KLt a b) (k : KLt b a) : False := by
  rcases h with ⟨e, f, rfl, rfl, h⟩ | ⟨e, f, rfl, rfl, h⟩ <;> rcases k with ⟨e', f', h1, h2, k⟩ | ⟨e', f', h1, h2, k⟩
  · rw [← ppk_inj _ _ h1, ← ppk_inj _ _ h2] at k
    exact plt_asym _ _ h k
  · exact ppk_apk h1
  · exact ppk_apk h1.symm
  · rw [← apk_inj _ _ h1, ← apk_inj _ _ h2] at k
    exact alt_asym _ _ h k
/-- what sorted makes of a row -/
structure SortK (H : Hp) (l : Addr) (ks : List (List L2.Key)) (xs : List V) (key : V → PyData) (fs : List (List L2.Key)) : Prop where
  row : H l = some (.lst xs)
  rel : ∀ x ∈ xs, relO H x (key x)
  al : PySem.W.AllAlike (xs.map key)
  so : PySem.W.Sortable (xs.map key)
  dp : ∀ x ∈ xs, (key x).depth ≤ 16
  ent : EntL kimg H (xs.mergeSort (PySem.W.dataLe false key)) fs
  pw : fs.Pairwise fun a b => a = b ∨ KLt a b
  mem : ∀ e, e ∈ fs ↔ e ∈ ks
  len : xs.length ≤ 400
  sh : ∀ k ∈ fs, SeqAt.shaped (kdata k) = true
theorem SortK.pairs {H : Hp} {l : Addr} {xs : List V} {es : List (Int × Str)} (hl : H l = some (.lst xs)) (en : EntL pimg H xs es) (le : xs.length ≤ 400) (b : ∀ e ∈ es, e.2.length ≤ 400) (sh : ∀ e ∈ es, SeqAt.shaped (kdata (ppk e)) = true) : ∃ key fs, SortK H l (es.map ppk) xs key fs := by
  have dat := fun t e => pdec_at (H := H) t e
  have of : ∀ v ∈ xs, ∃ e t, e ∈ es ∧ v = .ref t ∧ H t = some (.tup (pimg e)) := fun v hv => by
    obtain ⟨i, hi⟩ := List.getElem?_of_mem hv
    obtain ⟨e, t, he, ev, ht⟩ := en.get hi
    exact ⟨e, t, List.mem_of_getElem? he, ev, ht⟩
  obtain ⟨e1, en2⟩ := en.perm dat (List.mergeSort_perm xs (PySem.W.dataLe false fun v => okeyP (pdec H v).1 (pdec H v).2))
  have pm := (List.mergeSort_perm xs (PySem.W.dataLe false fun v => okeyP (pdec H v).1 (pdec H v).2)).map (pdec H)
  rw [← e1] at pm
  refine ⟨fun v => okeyP (pdec H v).1 (pdec H v).2, ((xs.mergeSort (PySem.W.dataLe false fun v => okeyP (pdec H v).1 (pdec H v).2)).map (pdec H)).map ppk, hl, fun v hv => ?_, fun d hd d' hd' => ?_, .inl fun d hd => ?_, fun v hv => depth_okeyP _ _, en2.keys ppk fun _ => rfl, ?_, mem_map_inj fun e => pm.mem_iff, le, fun k hk => ?_⟩
  · obtain ⟨e, t, he, rfl, ht⟩ := of v hv
    exact .inl ⟨t, e.1, e.2, rfl, ht, Nat.le_trans (b e he) (by decide), by rw [dat t e ht]⟩
  · obtain ⟨v, _, rfl⟩ := List.mem_map.mp hd
    obtain ⟨v', _, rfl⟩ := List.mem_map.mp hd'
    exact alike_okeyP _ _ _ _
  · obtain ⟨v, _, rfl⟩ := List.mem_map.mp hd
    exact ⟨_, _, rfl⟩
  · rw [List.pairwise_map, List.pairwise_map]
    refine (EnS.sort_pair (fun v => okeyP (pdec H v).1 (pdec H v).2) xs).imp fun {a b} h => ?_
    rw [lt_okeyP] at h
    by_cases e : pdec H a = pdec H b
    · exact .inl (by rw [e])
    · exact .inr (.inl ⟨_, _, rfl, rfl, EnS.le_pkey h e⟩)
  · obtain ⟨e, he, rfl⟩ := List.mem_map.mp hk
    exact sh e (pm.mem_iff.mp he)
theorem SortK.arcs {H : Hp} {l : Addr} {xs : List V} {es : List EnS.Arc} (hl : H l = some (.lst xs)) (en : EntL aimg H xs es) (le : xs.length ≤ 400) (b : ∀ e ∈ es, e.2.2.1.length ≤ 400) (sh : ∀ e ∈ es, SeqAt.shaped (kdata (apk e)) = true) : ∃ key fs, SortK H l (es.map apk) xs key fs := by
  have dat := fun t e => adec_at (H := H) t e
  have of : ∀ v ∈ xs, ∃ e t, e ∈ es ∧ v = .ref t ∧ H t = some (.tup (aimg e)) := fun v hv => by
    obtain ⟨i, hi⟩ := List.getElem?_of_mem hv
    obtain ⟨e, t, he, ev, ht⟩ := en.get hi
    exact ⟨e, t, List.mem_of_getElem? he, ev, ht⟩
  obtain ⟨e1, en2⟩ := en.perm dat (List.mergeSort_perm xs (PySem.W.dataLe false fun v => okeyA (adec H v).1 (adec H v).2.1 (adec H v).2.2.1 (adec H v).2.2.2))
  have pm := (List.mergeSort_perm xs (PySem.W.dataLe false fun v => okeyA (adec H v).1 (adec H v).2.1 (adec H v).2.2.1 (adec H v).2.2.2)).map (adec H)
  rw [← e1] at pm
  refine ⟨fun v => okeyA (adec H v).1 (adec H v).2.1 (adec H v).2.2.1 (adec H v).2.2.2, ((xs.mergeSort (PySem.W.dataLe false fun v => okeyA (adec H v).1 (adec H v).2.1 (adec H v).2.2.1 (adec H v).2.2.2)).map (adec H)).map apk, hl, fun v hv => ?_, fun d hd d' hd' => ?_, .inl fun d hd => ?_, fun v hv => depth_okeyA _ _ _ _, en2.keys apk fun _ => rfl, ?_, mem_map_inj fun e => pm.mem_iff, le, fun k hk => ?_⟩
  · obtain ⟨e, t, he, rfl, ht⟩ := of v hv
    exact .inr ⟨t, e.1, e.2.1, e.2.2.1, e.2.2.2, rfl, ht, Nat.le_trans (b e he) (by decide), by rw [dat t e ht]⟩
  · obtain ⟨v, _, rfl⟩ := List.mem_map.mp hd
    obtain ⟨v', _, rfl⟩ := List.mem_map.mp hd'
    exact alike_okeyA _ _ _ _ _ _ _ _
  · obtain ⟨v, _, rfl⟩ := List.mem_map.mp hd
    exact ⟨_, _, rfl⟩
  · rw [List.pairwise_map, List.pairwise_map]
    refine (EnS.sort_pair (fun v => okeyA (adec H v).1 (adec H v).2.1 (adec H v).2.2.1 (adec H v).2.2.2) xs).imp fun {a b} h => ?_
    rw [lt_okeyA] at h
    by_cases e : adec H a = adec H b
    · exact .inl (by rw [e])
    · exact .inr (.inr ⟨_, _, rfl, rfl, EnS.le_akey h e⟩)
  · obtain ⟨e, he, rfl⟩ := List.mem_map.mp hk
    exact sh e (pm.mem_iff.mp he)
/-- each once, so far -/
structure OnceK (H : Hp) (D : Addr) (fs : List (List L2.Key)) (i : Nat) : Prop where
  out : ∃ ys gs, H D = some (.lst ys) ∧ EntL kimg H ys gs ∧ gs.Pairwise KLt ∧ (∀ e, e ∈ gs ↔ e ∈ fs.take i) ∧ gs.length ≤ i
theorem once_step {fs gs : List (List L2.Key)} {i : Nat} {f : List L2.Key} (pw : fs.Pairwise fun a b => a = b ∨ KLt a b) (hf : fs[i]? = some f) (gp : gs.Pairwise KLt) (gm : ∀ e, e ∈ gs ↔ e ∈ fs.take i) (ne : i = 0 ∨ ∃ f0, fs[i - 1]? = some f0 ∧ f0 ≠ f) : (gs ++ [f]).Pairwise KLt ∧ ∀ e, e ∈ gs ++ [f] ↔ e ∈ fs.take (i + 1) := by
  obtain ⟨li, ef⟩ := List.getElem?_eq_some_iff.mp hf
  refine ⟨List.pairwise_append.mpr ⟨gp, List.pairwise_singleton .., fun a ha b hb => ?_⟩, fun e => ?_⟩
  · rw [List.mem_singleton.mp hb]
    obtain ⟨j, hj⟩ := List.getElem?_of_mem ((gm a).mp ha)
    obtain ⟨lj, ej⟩ := List.getElem?_eq_some_iff.mp hj
    rw [List.length_take] at lj
    rw [List.getElem_take] at ej
    have r := List.pairwise_iff_getElem.mp pw j i (by omega) li (by omega)
    rw [ej, ef] at r
    rcases r with r | r
    · rcases ne with e0 | ⟨f0, h0, n0⟩
      · omega
      · obtain ⟨l0, e0⟩ := List.getElem?_eq_some_iff.mp h0
        have r0 := List.pairwise_iff_getElem.mp pw (i - 1) i l0 li (by omega)
        rw [e0, ef] at r0
        have k0 := r0.resolve_left n0
        by_cases q : j = i - 1
        · subst q
          rw [ej] at e0
          exact (n0 (by rw [← e0, r])).elim
        · have r1 := List.pairwise_iff_getElem.mp pw j (i - 1) (by omega) l0 (by omega)
          rw [ej, e0] at r1
          rcases r1 with r1 | r1
          · exact (n0 (by rw [← r1, r])).elim
          · rw [r] at r1
            exact (klt_asym _ _ r1 k0).elim
    · exact r
  · rw [List.take_add_one, hf, List.mem_append, List.mem_append, gm]
    rfl
theorem once_skip {fs gs : List (List L2.Key)} {i : Nat} {f : List L2.Key} (hf : fs[i]? = some f) (gm : ∀ e, e ∈ gs ↔ e ∈ fs.take i) (h0 : 0 < i) (eq : fs[i - 1]? = some f) : ∀ e, e ∈ gs ↔ e ∈ fs.take (i + 1) := fun e => by
  rw [List.take_add_one, hf, List.mem_append, gm]
  constructor
  · exact .inl
  · rintro (h | h)
    · exact h
    · rw [List.mem_singleton.mp h]
      exact List.mem_of_getElem? (i := i - 1) (by rw [List.getElem?_take, if_pos (by omega)]; exact eq)
theorem EntL.unkeys {α : Type} {img : α → List V} {pk : α → List L2.Key} (hp : ∀ e, (pk e).map kV = img e) {H : Hp} : ∀ {xs : List V} {es : List α}, EntL kimg H xs (es.map pk) → EntL img H xs es
  | [], [], _ => .nil
  | x :: xs, e :: es, h => by
    cases h with
    | cons q r =>
      obtain ⟨t, e', q⟩ := q
      exact .cons ⟨t, e', by rw [← hp]; exact q⟩ (EntL.unkeys hp r)
  | [], _ :: _, h => by cases h
  | _ :: _, [], h => by cases h
theorem srt_keysP {ds es : List (Int × Str)} (s : Srt EnS.PLt ds es) : (ds.map ppk).Pairwise KLt ∧ ∀ e, e ∈ ds.map ppk ↔ e ∈ es.map ppk := ⟨List.pairwise_map.mpr (s.pw.imp fun {a b} h => .inl ⟨a, b, rfl, rfl, h⟩), mem_map_inj s.mem⟩
theorem srt_keysA {ds es : List EnS.Arc} (s : Srt EnS.ALt ds es) : (ds.map apk).Pairwise KLt ∧ ∀ e, e ∈ ds.map apk ↔ e ∈ es.map apk := ⟨List.pairwise_map.mpr (s.pw.imp fun {a b} h => .inr ⟨a, b, rfl, rfl, h⟩), mem_map_inj s.mem⟩
theorem strOk_over {z x : Str} (al : IsAlpha z) (o : Over z x) : PyData.strOk x = true := by
  unfold PyData.strOk
  rw [Array.all_eq_true']
  intro c hc
  have := al.low c (o c (Array.mem_toList_iff.mpr hc))
  exact decide_eq_true (by omega)
theorem shaped_p {z : Str} {e : Int × Str} (al : IsAlpha z) (o : Over z e.2) : SeqAt.shaped (kdata (ppk e)) = true := by
  simp [SeqAt.shaped, kdata, ppk, kd, PyData.canLay0, PyData.canLayAll0, PyData.depth, PyData.depthAll, strOk_over al o]
theorem shaped_a {r z : Str} {e : EnS.Arc} (ar : IsAlpha r) (al : IsAlpha z) (o' : Over r e.2.1) (o : Over z e.2.2.1) : SeqAt.shaped (kdata (apk e)) = true := by
  simp [SeqAt.shaped, kdata, apk, kd, PyData.canLay0, PyData.canLayAll0, PyData.depth, PyData.depthAll, strOk_over al o, strOk_over ar o']
/-- how an error is told -/
def RefT (cL cN cE cT : Addr) (cls : Value) (fs : List (Str × V)) (zs : List V) : Prop :=
  (cls = .ref cL ∧ ∃ v, fs = ([("value", v)] : List (Str × V)) ∧ zs = [.str (Str.ofString "BadLetters"), v]) ∨
  (cls = .ref cN ∧ ∃ v, fs = ([("value", v)] : List (Str × V)) ∧ zs = [.str (Str.ofString "BadNumber"), v]) ∨
  (cls = .ref cE ∧ ∃ v u, fs = ([("index", u), ("place", v)] : List (Str × V)) ∧ zs = [.str (Str.ofString "BadEntry"), v, u]) ∨
  (cls = .ref cT ∧ ∃ v u, fs = ([("limit", u), ("what", v)] : List (Str × V)) ∧ zs = [.str (Str.ofString "TooLarge"), v, u])
def Flt.zs (pl : Str) : Flt → List V
  | .shape => [.str (Str.ofString "BadEntry"), .str pl, .non]
  | .large => [.str (Str.ofString "TooLarge"), .str pl, .int 400]
  | .at k => [.str (Str.ofString "BadEntry"), .str pl, .int (k : Nat)]
def MF.zs (rv zv nv : V) : MF → List V
  | .read => [.str (Str.ofString "BadLetters"), rv]
  | .write => [.str (Str.ofString "BadLetters"), zv]
  | .size => [.str (Str.ofString "BadNumber"), nv]
  | .begins f => f.zs (Str.ofString "begins")
  | .arcs f => f.zs (Str.ofString "arcs")
  | .ends f => f.zs (Str.ofString "ends")
def MF.pos : MF → Nat
  | .read => 0
  | .write => 1
  | .size => 2
  | .begins _ => 3
  | .arcs _ => 4
  | .ends _ => 5
theorem Flt.refT {cL cN cE cT : Addr} {pl : Str} : ∀ f : Flt, RefT cL cN cE cT (.ref (f.cls cE cT)) (f.fs pl) (f.zs pl)
  | .shape => .inr (.inr (.inl ⟨rfl, _, _, rfl, rfl⟩))
  | .large => .inr (.inr (.inr ⟨rfl, _, _, rfl, rfl⟩))
  | .at _ => .inr (.inr (.inl ⟨rfl, _, _, rfl, rfl⟩))
theorem MF.refT {cL cN cE cT : Addr} {rv zv nv : V} : ∀ f : MF, RefT cL cN cE cT (.ref (f.cls cL cN cE cT)) (f.fs rv zv nv) (f.zs rv zv nv)
  | .read => .inl ⟨rfl, _, rfl, rfl⟩
  | .write => .inl ⟨rfl, _, rfl, rfl⟩
  | .size => .inr (.inl ⟨rfl, _, rfl, rfl⟩)
  | .begins f => f.refT
  | .arcs f => f.refT
  | .ends f => f.refT
theorem Flt.zs_deep {K : PySem.W.Frag} {Ok : Hp → V → Prop} {a : Addr} {H : Hp} {v : V} {n : Nat} {pl : Str} (lp : pl.length ≤ 1000) : ∀ {f : Flt}, FltAt K Ok H v f → ∀ x ∈ f.zs pl, Deep a n H x
  | .shape, _ => List.forall_mem_cons.mpr ⟨deep_str (by decide +kernel), List.forall_mem_cons.mpr ⟨deep_str (by omega), List.forall_mem_cons.mpr ⟨deep_non, fun x m => absurd m List.not_mem_nil⟩⟩⟩
  | .large, _ => List.forall_mem_cons.mpr ⟨deep_str (by decide +kernel), List.forall_mem_cons.mpr ⟨deep_str (by omega), List.forall_mem_cons.mpr ⟨deep_int (Nat.lt_of_lt_of_le (show (400 : Int).natAbs < 2 ^ 10 by decide) (Nat.pow_le_pow_right (by omega) (by omega))), fun x m => absurd m List.not_mem_nil⟩⟩⟩
  | .at k, ⟨p, xs, x, _, _, l, hx, _⟩ => List.forall_mem_cons.mpr ⟨deep_str (by decide +kernel), List.forall_mem_cons.mpr ⟨deep_str (by omega), List.forall_mem_cons.mpr ⟨deep_int (Nat.lt_of_lt_of_le (show ((k : Nat) : Int).natAbs < 2 ^ 10 by
      have := (List.getElem?_eq_some_iff.mp hx).1
      show ((k : Nat) : Int).natAbs < 1024
      omega) (Nat.pow_le_pow_right (by omega) (by omega))), fun x m => absurd m List.not_mem_nil⟩⟩⟩
theorem MF.zs_deep {K : PySem.W.Frag} {a : Addr} {H : Hp} {rv zv nv bv av ev : V} {n : Nat} (d1 : Deep a n H rv) (d2 : Deep a n H zv) (d3 : Deep a n H nv) : ∀ {f : MF}, MFAt K H rv zv nv bv av ev f → ∀ x ∈ f.zs rv zv nv, Deep a n H x
  | .read, _ => List.forall_mem_cons.mpr ⟨deep_str (by decide +kernel), List.forall_mem_cons.mpr ⟨d1, fun x m => absurd m List.not_mem_nil⟩⟩
  | .write, _ => List.forall_mem_cons.mpr ⟨deep_str (by decide +kernel), List.forall_mem_cons.mpr ⟨d2, fun x m => absurd m List.not_mem_nil⟩⟩
  | .size, _ => List.forall_mem_cons.mpr ⟨deep_str (by decide +kernel), List.forall_mem_cons.mpr ⟨d3, fun x m => absurd m List.not_mem_nil⟩⟩
  | .begins f, ⟨_, _, _, _, h⟩ => Flt.zs_deep (by decide +kernel) h
  | .arcs f, ⟨_, _, _, _, _, _, _, _, _, h⟩ => Flt.zs_deep (by decide +kernel) h
  | .ends f, ⟨_, _, _, _, _, _, _, _, _, _, _, _, _, _, h⟩ => Flt.zs_deep (by decide +kernel) h
theorem MF.zs_len {rv zv nv : V} : ∀ f : MF, (f.zs rv zv nv).length ≤ 3
  | .read => by show 2 ≤ 3; decide
  | .write => by show 2 ≤ 3; decide
  | .size => by show 2 ≤ 3; decide
  | .begins f => by cases f <;> (show 3 ≤ 3; decide)
  | .arcs f => by cases f <;> (show 3 ≤ 3; decide)
  | .ends f => by cases f <;> (show 3 ≤ 3; decide)
/-- what stands behind the wrong one does not matter -/
theorem MFAt.later {K : PySem.W.Frag} {H : Hp} {rv zv nv bv av ev : V} {f : MF} (h : MFAt K H rv zv nv bv av ev f) {j : Nat} (hp : f.pos < j) (h6 : j < 6) :
    ∃ zv' nv' bv' av' ev', [rv, zv, nv, bv, av, ev].set j .non = [rv, zv', nv', bv', av', ev'] ∧ MFAt K H rv zv' nv' bv' av' ev' f ∧ f.zs rv zv' nv' = f.zs rv zv nv ∧ (zv' = zv ∨ zv' = .non) ∧ (nv' = nv ∨ nv' = .non) ∧ (bv' = bv ∨ bv' = .non) ∧ (av' = av ∨ av' = .non) ∧ (ev' = ev ∨ ev' = .non) := by
  obtain rfl | rfl | rfl | rfl | rfl : j = 1 ∨ j = 2 ∨ j = 3 ∨ j = 4 ∨ j = 5 := by omega
  · cases f with
    | read => exact ⟨.non, nv, bv, av, ev, rfl, h, rfl, .inr rfl, .inl rfl, .inl rfl, .inl rfl, .inl rfl⟩
    | _ => exact absurd hp (by show ¬ _ < 1; simp [MF.pos])
  · cases f with
    | read => exact ⟨zv, .non, bv, av, ev, rfl, h, rfl, .inl rfl, .inr rfl, .inl rfl, .inl rfl, .inl rfl⟩
    | write => exact ⟨zv, .non, bv, av, ev, rfl, h, rfl, .inl rfl, .inr rfl, .inl rfl, .inl rfl, .inl rfl⟩
    | _ => exact absurd hp (by show ¬ _ < 2; simp [MF.pos])
  · cases f with
    | read => exact ⟨zv, nv, .non, av, ev, rfl, h, rfl, .inl rfl, .inl rfl, .inr rfl, .inl rfl, .inl rfl⟩
    | write => exact ⟨zv, nv, .non, av, ev, rfl, h, rfl, .inl rfl, .inl rfl, .inr rfl, .inl rfl, .inl rfl⟩
    | size => exact ⟨zv, nv, .non, av, ev, rfl, h, rfl, .inl rfl, .inl rfl, .inr rfl, .inl rfl, .inl rfl⟩
    | _ => exact absurd hp (by show ¬ _ < 3; simp [MF.pos])
  · cases f with
    | read => exact ⟨zv, nv, bv, .non, ev, rfl, h, rfl, .inl rfl, .inl rfl, .inl rfl, .inr rfl, .inl rfl⟩
    | write => exact ⟨zv, nv, bv, .non, ev, rfl, h, rfl, .inl rfl, .inl rfl, .inl rfl, .inr rfl, .inl rfl⟩
    | size => exact ⟨zv, nv, bv, .non, ev, rfl, h, rfl, .inl rfl, .inl rfl, .inl rfl, .inr rfl, .inl rfl⟩
    | begins f => exact ⟨zv, nv, bv, .non, ev, rfl, h, rfl, .inl rfl, .inl rfl, .inl rfl, .inr rfl, .inl rfl⟩
    | _ => exact absurd hp (by show ¬ _ < 4; simp [MF.pos])
  · cases f with
    | read => exact ⟨zv, nv, bv, av, .non, rfl, h, rfl, .inl rfl, .inl rfl, .inl rfl, .inl rfl, .inr rfl⟩
    | write => exact ⟨zv, nv, bv, av, .non, rfl, h, rfl, .inl rfl, .inl rfl, .inl rfl, .inl rfl, .inr rfl⟩
    | size => exact ⟨zv, nv, bv, av, .non, rfl, h, rfl, .inl rfl, .inl rfl, .inl rfl, .inl rfl, .inr rfl⟩
    | begins f => exact ⟨zv, nv, bv, av, .non, rfl, h, rfl, .inl rfl, .inl rfl, .inl rfl, .inl rfl, .inr rfl⟩
    | arcs f => exact ⟨zv, nv, bv, av, .non, rfl, h, rfl, .inl rfl, .inl rfl, .inl rfl, .inl rfl, .inr rfl⟩
    | _ => exact absurd hp (by show ¬ _ < 5; simp [MF.pos])
/-- spoilt parts and what is due of them -/
def SpD (K : PySem.W.Frag) (a : Addr) (H : Hp) (s d : Addr) : Prop := ∃ (rv zv nv bv av ev : V) (f : MF), H s = some (.lst [rv, zv, nv, bv, av, ev]) ∧ MFAt K H rv zv nv bv av ev f ∧ H d = some (.tup (f.zs rv zv nv)) ∧ Deep a 9 H (.ref s) ∧ ∀ x ∈ f.zs rv zv nv, Deep a 8 H x
theorem Kt.same [Tabl] {H H' : Hp} (s : Same H H') : Kt H H' := ⟨fun _ _ h => s _ _ h, fun _ _ h => s _ _ h⟩
/-- an entry's place in a heap that keeps lists and tuples -/
theorem sIx_nat {n d k : Nat} (h : k ≤ n) : HT.sIx n d (some (k : Int)) = k := by
  unfold HT.sIx
  have h1 : ¬ ((k : Int) < 0) := by omega
  have h2 : min k n = k := Nat.min_eq_left h
  simp [h1, h2]
theorem cut_take {xs : List V} {k : Nat} (h : k ≤ xs.length) : cutV xs none (some (k : Int)) = xs.take k := by
  unfold cutV
  rw [sIx_nat h]
  rfl
theorem cut_drop {xs : List V} {k : Nat} (h : k ≤ xs.length) : cutV xs (some (k : Int)) none = xs.drop k := by
  unfold cutV
  rw [sIx_nat h]
  show (xs.drop k).take (xs.length - k) = xs.drop k
  rw [List.take_of_length_le (by rw [List.length_drop]; exact Nat.le_refl _)]
/-! a list elsewhere is changed -/
theorem deep_ne {s t : Addr} {n : Nat} {H : Hp} (d : Deep s n H (.ref t)) : t ≠ s := by
  cases n with
  | zero =>
    rcases d with ⟨pl, _⟩ | ⟨p, xs, e, ne, _⟩
    · cases pl
    · cases e; exact ne
  | succ n =>
    rcases d with ⟨pl, _⟩ | ⟨p, xs, e, ne, _⟩
    · cases pl
    · cases e; exact ne
theorem deep_in {s t : Addr} {n : Nat} {H : Hp} {xs : List V} (d : Deep s (n + 1) H (.ref t)) (h : H t = some (.lst xs) ∨ H t = some (.tup xs)) {x : V} (m : x ∈ xs) : Deep s n H x := (deep_ref d h).2 n rfl x m
section
variable [Tabl] {s : Addr} {H H' : Hp} {K : PySem.W.Frag} {v : V} {n : Nat}
theorem shal_put (k : But s H H') (d : Deep s n H v) : Shal H' v := (d.put k d).shal
theorem put_back (k : But s H H') {t : Addr} {xs : List V} (d : Deep s n H (.ref t)) (h : H' t = some (.tup xs)) : H t = some (.tup xs) := by
  obtain ⟨ys, o⟩ := shal_row d.shal
  rcases o with o | o
  · rw [k _ _ (deep_ne d) o] at h
    cases h
  · rw [k _ _ (deep_ne d) o] at h
    cases h
    exact o
theorem inner_put (k : But s H H') (d : Deep s (n + 1) H v) : Inner H' v := fun t xs e ht y hy => by
  subst e
  exact shal_put k (deep_in d (.inr (put_back k d ht)) hy)
theorem rowAt_put (k : But s H H') {p : Addr} {xs : List V} (ne : p ≠ s) (h : Own.RowAt K H p xs) : Own.RowAt K H' p xs := h.imp (k _ _ ne) fun h => h.imp (k _ _ ne) id
theorem FltAt.put {Ok : Hp → V → Prop} (ok : ∀ x m, Deep s m H x → (Ok H' x ↔ Ok H x)) (k : But s H H') (d : Deep s (n + 2) H v) : ∀ {f : Flt}, FltAt K Ok H v f → FltAt K Ok H' v f
  | .shape, h => h
  | .large, ⟨p, xs, e, h, l⟩ => ⟨p, xs, e, rowAt_put k (by subst e; exact deep_ne d) h, l⟩
  | .at j, ⟨p, xs, x, e, h, l, hx, bad, bef⟩ => by
    subst e
    have dx : ∀ y ∈ xs, Deep s (n + 1) H y := fun y m => by
      rcases h with h | h | ⟨rfl, _⟩
      · exact deep_in d (.inl h) m
      · exact deep_in d (.inr h) m
      · cases m
    refine ⟨p, xs, x, rfl, rowAt_put k (deep_ne d) h, l, hx, fun o => bad ((ok x _ (dx x (List.mem_of_getElem? hx))).mp o), fun i y hi hy => ?_⟩
    obtain ⟨b1, b2, b3⟩ := bef i y hi hy
    have dy := dx y (List.mem_of_getElem? hy)
    exact ⟨fun z => (ok y _ dy).mpr (b1 z), shal_put k dy, inner_put k dy⟩
theorem pairV_put {z : Str} {n' : Int} (k : But s H H') (m : Nat) (d : Deep s m H v) : PairV H' z n' v ↔ PairV H z n' v := by
  constructor
  · rintro ⟨t, i, x, rfl, ht, r⟩
    exact ⟨t, i, x, rfl, put_back k d ht, r⟩
  · rintro ⟨t, i, x, rfl, ht, r⟩
    exact ⟨t, i, x, rfl, k _ _ (deep_ne d) ht, r⟩
theorem arcV_put {r z : Str} {n' : Int} (k : But s H H') (m : Nat) (d : Deep s m H v) : ArcV H' r z n' v ↔ ArcV H r z n' v := by
  constructor
  · rintro ⟨t, i, l, x, j, rfl, ht, q⟩
    exact ⟨t, i, l, x, j, rfl, put_back k d ht, q⟩
  · rintro ⟨t, i, l, x, j, rfl, ht, q⟩
    exact ⟨t, i, l, x, j, rfl, k _ _ (deep_ne d) ht, q⟩
theorem RowE.put {α : Type} {img : α → List V} (k : But s H H') {l : Addr} {es : List α} (d : Deep s (n + 1) H (.ref l)) (h : RowE K img H l es) : RowE K img H' l es := by
  obtain ⟨xs, h1, h2, h3⟩ := h
  refine ⟨xs, rowAt_put k (deep_ne d) h1, h2, EntL.of h3.len fun i x e hx he => ?_⟩
  obtain ⟨e', t, he', rfl, ht⟩ := h3.get hx
  rw [he] at he'
  cases he'
  have dx : Deep s n H (.ref t) := by
    rcases h1 with h | h | ⟨rfl, _⟩
    · exact deep_in d (.inl h) (List.mem_of_getElem? hx)
    · exact deep_in d (.inr h) (List.mem_of_getElem? hx)
    · cases hx
  exact ⟨t, rfl, k _ _ (deep_ne dx) ht⟩
theorem MFAt.put {rv zv nv bv av ev : V} (k : But s H H') (d1 : Deep s (n + 2) H rv) (d2 : Deep s (n + 2) H zv) (d3 : Deep s (n + 2) H nv) (d4 : Deep s (n + 2) H bv) (d5 : Deep s (n + 2) H av) (d6 : Deep s (n + 2) H ev) : ∀ {f : MF}, MFAt K H rv zv nv bv av ev f → MFAt K H' rv zv nv bv av ev f
  | .read, ⟨_, b⟩ => ⟨shal_put k d1, b⟩
  | .write, ⟨a, _, b⟩ => ⟨a, shal_put k d2, b⟩
  | .size, ⟨a, c, _, b⟩ => ⟨a, c, shal_put k d3, b⟩
  | .begins f, ⟨r, z, n, b, h⟩ => ⟨r, z, n, b, h.put (fun _ m d => pairV_put k m d) k d4⟩
  | .arcs f, ⟨r, z, n, b, be, h1, h2, h3, h4, h⟩ => ⟨r, z, n, b, be, h1, h2, by subst h2; exact h3.put k d4, h4, h.put (fun _ m d => arcV_put k m d) k d5⟩
  | .ends f, ⟨r, z, n, b, be, a, ae, h1, h2, h3, h4, h5, h6, h7, h⟩ => ⟨r, z, n, b, be, a, ae, h1, h2, by subst h2; exact h3.put k d4, h4, h5, by subst h5; exact h6.put k d5, h7, h.put (fun _ m d => pairV_put k m d) k d6⟩
end
theorem cut_take_all {xs : List V} {k : Nat} : cutV xs none (some (k : Int)) = xs.take k := by
  by_cases h : k ≤ xs.length
  · exact cut_take h
  · unfold cutV
    rw [HT.sIx_nat]
    show (xs.drop 0).take (min k xs.length - 0) = xs.take k
    rw [List.drop_zero, Nat.sub_zero, Nat.min_eq_right (by omega), List.take_of_length_le (Nat.le_refl _), List.take_of_length_le (by omega)]
theorem spot_at {xs tl : List V} {v : V} {P : Nat} (hP : P ≤ xs.length) (h400 : P < 400) : ((xs.take P ++ [v] ++ xs.drop P ++ tl).take 400)[P]? = some v ∧ ∀ j y, j < P → ((xs.take P ++ [v] ++ xs.drop P ++ tl).take 400)[j]? = some y → xs[j]? = some y := by
  have lt : (xs.take P).length = P := by rw [List.length_take]; omega
  constructor
  · rw [List.getElem?_take, if_pos h400, List.append_assoc, List.append_assoc, List.getElem?_append_right (by omega), lt, Nat.sub_self]
    rfl
  · intro j y hj h
    rw [List.getElem?_take, if_pos (by omega), List.append_assoc, List.append_assoc, List.getElem?_append_left (by omega), List.getElem?_take, if_pos hj] at h
    exact h
theorem spot_mem {xs tl : List V} {v : V} {P : Nat} : ∀ y ∈ (xs.take P ++ [v] ++ xs.drop P ++ tl).take 400, y = v ∨ y ∈ xs ∨ y ∈ tl := fun y m => by
  have m := List.mem_of_mem_take m
  rcases List.mem_append.mp m with m | m
  · rcases List.mem_append.mp m with m | m
    · rcases List.mem_append.mp m with m | m
      · exact .inr (.inl (List.mem_of_mem_take m))
      · exact .inl (List.mem_singleton.mp m)
    · exact .inr (.inl (List.mem_of_mem_drop m))
  · exact .inr (.inr m)
/-- apart from both -/
def D2 (a s : Addr) (n : Nat) (H : Hp) (v : V) : Prop := Deep a n H v ∧ Deep s n H v
theorem D2.le {a s : Addr} {n m : Nat} {H : Hp} {v : V} (h : D2 a s n H v) (l : n ≤ m) : D2 a s m H v := ⟨h.1.le l, h.2.le l⟩
theorem D2.row {a s w : Addr} {n : Nat} {H : Hp} {ys : List V} (h : H w = some (.lst ys) ∨ H w = some (.tup ys)) (na : w ≠ a) (ns : w ≠ s) (l : ys.length ≤ 1000000) (r : ∀ y ∈ ys, D2 a s n H y) : D2 a s (n + 1) H (.ref w) :=
  ⟨.inr ⟨w, ys, rfl, na, h, l, fun y m => (r y m).1⟩, .inr ⟨w, ys, rfl, ns, h, l, fun y m => (r y m).2⟩⟩
theorem D2.but [Tabl] {a s : Addr} {n : Nat} {H H' : Hp} {v : V} (h : D2 a s n H v) (k : But a H H') : D2 a s n H' v := ⟨h.1.but k, h.2.put k h.1⟩
theorem D2.same [Tabl] {a s : Addr} {n : Nat} {H H' : Hp} {v : V} (h : D2 a s n H v) (k : Same H H') : D2 a s n H' v := ⟨h.1.same k, h.2.same k⟩
theorem D2.put [Tabl] {a s : Addr} {n : Nat} {H H' : Hp} {v : V} (h : D2 a s n H v) (k : But s H H') : D2 a s n H' v := ⟨h.1.put k h.2, h.2.but k⟩
theorem D2.str {a s : Addr} {n : Nat} {H : Hp} {x : Str} (l : x.length ≤ 1000000) : D2 a s n H (.str x) := ⟨deep_str l, deep_str l⟩
theorem D2.non {a s : Addr} {n : Nat} {H : Hp} : D2 a s n H .non := ⟨deep_non, deep_non⟩
theorem D2.int {a s : Addr} {n : Nat} {H : Hp} {i : Int} (l : i.natAbs < 2 ^ 13000) : D2 a s n H (.int i) := ⟨deep_int l, deep_int l⟩
/-- spoilt parts, while the store stands at a and the parts at s -/
structure Mid [Tabl] (K : PySem.W.Frag) (a ca s : Addr) (H H' : Hp) (d : Addr) (rv zv nv bv av ev : V) (f : MF) : Prop where
  b : But a H H'
  st : Sto H' a ca
  row : H' s = some (.lst [rv, zv, nv, bv, av, ev])
  mf : MFAt K H' rv zv nv bv av ev f
  due : H' d = some (.tup (f.zs rv zv nv))
  d1 : D2 a s 6 H' rv
  d2 : D2 a s 6 H' zv
  d3 : D2 a s 6 H' nv
  d4 : D2 a s 6 H' bv
  d5 : D2 a s 6 H' av
  d6 : D2 a s 6 H' ev
theorem Mid.mk' [Tabl] {K : PySem.W.Frag} {a ca s : Addr} {H H5 : Hp} {rv zv nv bv av ev : V} {f : MF} {us : List V} (nsH : H s = none) (xs : s ≠ a ∧ s ≠ ca) (b : But a H H5) (S : Sto H5 a ca) (hs : H5 s = some (.lst us)) (mf : MFAt K H5 rv zv nv bv av ev f)
    (d1 : D2 a s 6 H5 rv) (d2 : D2 a s 6 H5 zv) (d3 : D2 a s 6 H5 nv) (d4 : D2 a s 6 H5 bv) (d5 : D2 a s 6 H5 av) (d6 : D2 a s 6 H5 ev) {d : Addr} (nd : (upd H5 s (.lst [rv, zv, nv, bv, av, ev])) d = none) :
    Mid K a ca s H (upd (upd H5 s (.lst [rv, zv, nv, bv, av, ev])) d (.tup (f.zs rv zv nv))) d rv zv nv bv av ev f := by
  have k := But.put (o := .lst [rv, zv, nv, bv, av, ev]) hs
  have sm := same_new (o := .tup (f.zs rv zv nv)) nd
  refine ⟨(But.grown (.refl H) nsH b hs).trans (But.same sm), (S.put xs).same sm, sm _ _ upd_same, (mf.put (n := 4) k d1.2 d2.2 d3.2 d4.2 d5.2 d6.2).kt (Kt.same sm), upd_same, (d1.put k).same sm, (d2.put k).same sm, (d3.put k).same sm, (d4.put k).same sm, (d5.put k).same sm, (d6.put k).same sm⟩
theorem Mid.but [Tabl] {K : PySem.W.Frag} {a ca s d : Addr} {H H5 H6 : Hp} {rv zv nv bv av ev : V} {f : MF} (M : Mid K a ca s H H5 d rv zv nv bv av ev f) (k : But a H5 H6) (S : Sto H6 a ca) (sa : s ≠ a) : Mid K a ca s H H6 d rv zv nv bv av ev f := by
  have da : d ≠ a := fun e => M.st.ntup _ (by rw [← e]; exact M.due)
  exact ⟨M.b.trans k, S, k _ _ sa M.row, M.mf.put (n := 4) k M.d1.1 M.d2.1 M.d3.1 M.d4.1 M.d5.1 M.d6.1, k _ _ da M.due, M.d1.but k, M.d2.but k, M.d3.but k, M.d4.but k, M.d5.but k, M.d6.but k⟩
/-! ### xs.insert(k, y) -/
def rInsert : V → List V → Hp → VK → Prop := fun x vs H Q => ∃ l xs y, ∃ k : Nat, x = .ref l ∧ vs = [.int (k : Int), y] ∧ H l = some (.lst xs) ∧ k ≤ xs.length ∧ xs.length < sizeLine ∧ k < 2 ^ 62 ∧ Q .non (upd H l (.lst (xs.take k ++ [y] ++ xs.drop k)))
theorem mt_insert {X : Cx} : MtM X "list.insert" rInsert := by
  intro pins s σ H x vs v us Q I rx rv h
  obtain ⟨l, xs, y, k, rfl, rfl, hH, hk, hz, hk2, q⟩ := h
  obtain ⟨i, hi⟩ : ∃ i : Int, i = (k : Int) := ⟨_, rfl⟩
  rw [← hi] at rv
  cases rx
  obtain ⟨u1, u2, rfl, r1, r2⟩ := vals2 rv
  obtain ⟨t, rfl⟩ := r1
  obtain ⟨z, its, n, r, hl, e⟩ := I.lstM hH
  have fit : Builtin.List.listFitsIndex i = true := fitsIndex_both (by omega) (by omega)
  have lk : its.length = xs.length := hl.symm
  have hsz : its.toArray.size ≤ sizeLine := by
    rw [List.size_toArray]
    omega
  have hc0 : ¬ (!Builtin.List.listFitsIndex i) = true := by
    rw [fit]
    exact Bool.false_ne_true
  have M := AutoSeq1.list_insert_list_int_val_1 l its.toArray n i t u2 hc0 hsz
  refine call_meets PySem.F.slot_list_insert ⟨_, e, rfl⟩ PySem.F.entry_list_insert (PySem.F.args_list_insert_3 _ _ _) M ⟨e, ?_⟩
  refine ⟨.non, _, I.lset (its' := its.take k ++ [u2] ++ its.drop k) hH e ?_ (((r.take k).append (.cons r2 .nil)).append (r.drop k)) ?_, rfl, q⟩
  · have h0 : ¬ (i < 0) := by omega
    have h1 : min i.toNat its.toArray.size = k := by
      rw [List.size_toArray, hi, Int.toNat_natCast]
      omega
    show ((its.toArray.extract 0 (if i < 0 then (i + (its.toArray.size : Int)).toNat else min i.toNat its.toArray.size)).push u2 ++ its.toArray.extract (if i < 0 then (i + (its.toArray.size : Int)).toNat else min i.toNat its.toArray.size)) = _
    rw [if_neg h0, h1]
    simp
    rw [List.take_of_length_le (by rw [List.length_drop]; exact Nat.le_refl _)]
  · rw [List.length_append, List.length_append, List.length_take, List.length_drop]
    show min k xs.length + 1 + (xs.length - k) ≤ sizeLine
    omega
theorem call_list_ofK {X : Cx} (K : PySem.W.Frag) (h : X.K = K) : CallR X (.type "list") (fun xs H Q => ∃ p ys, xs = [V.ref p] ∧ (SqL K H p ys ∨ SqT K H p ys) ∧ ∀ l : Addr, H l = none → Q (.ref l) (upd H l (.lst ys))) := by
  rw [← h]
  exact call_list_of
end Lb

namespace Lb
open PySem PySem.Spec PyProof.Rows L2
def topS (i : Nat) : Stmt := PySem.Challenge.pw_lagbound_k12_machine_arguments.main.body.getD i (.Pass ⟨0, 0, 0, 0⟩)
abbrev s_is_whole : Stmt := topS 1
theorem sc_is_whole : FnScope ["value"] ["value"] (defScope s_is_whole) := ⟨rfl, rfl, rfl, by decide +kernel, rfl, by decide +kernel, by decide +kernel⟩
abbrev s_in_range : Stmt := topS 2
theorem sc_in_range : FnScope ["value", "low", "high"] ["value", "low", "high"] (defScope s_in_range) := ⟨rfl, rfl, rfl, by decide +kernel, rfl, by decide +kernel, by decide +kernel⟩
abbrev s_check_number : Stmt := topS 14
theorem sc_check_number : FnScope ["value", "low", "high"] ["value", "low", "high"] (defScope s_check_number) := ⟨rfl, rfl, rfl, by decide +kernel, rfl, by decide +kernel, by decide +kernel⟩
abbrev s_is_letters : Stmt := topS 21
theorem sc_is_letters : FnScope ["value"] ["value"] (defScope s_is_letters) := ⟨rfl, rfl, rfl, by decide +kernel, rfl, by decide +kernel, by decide +kernel⟩
abbrev s_is_letter : Stmt := topS 22
theorem sc_is_letter : FnScope ["letters", "value"] ["letters", "value"] (defScope s_is_letter) := ⟨rfl, rfl, rfl, by decide +kernel, rfl, by decide +kernel, by decide +kernel⟩
abbrev s_is_word : Stmt := topS 23
theorem sc_is_word : FnScope ["letters", "value"] ["letters", "value"] (defScope s_is_word) := ⟨rfl, rfl, rfl, by decide +kernel, rfl, by decide +kernel, by decide +kernel⟩
abbrev s_is_word_up_to : Stmt := topS 24
theorem sc_is_word_up_to : FnScope ["letters", "value", "most"] ["letters", "value", "most"] (defScope s_is_word_up_to) := ⟨rfl, rfl, rfl, by decide +kernel, rfl, by decide +kernel, by decide +kernel⟩
abbrev s_check_letters : Stmt := topS 25
theorem sc_check_letters : FnScope ["letters"] ["letters"] (defScope s_check_letters) := ⟨rfl, rfl, rfl, by decide +kernel, rfl, by decide +kernel, by decide +kernel⟩
abbrev s_word_key : Stmt := topS 26
theorem sc_word_key : FnScope ["word"] ["word"] (defScope s_word_key) := ⟨rfl, rfl, rfl, by decide +kernel, rfl, by decide +kernel, by decide +kernel⟩
abbrev s_is_pair : Stmt := topS 29
theorem sc_is_pair : FnScope ["value", "write", "size", "state", "word"] ["value", "write", "size"] (defScope s_is_pair) := ⟨rfl, rfl, rfl, by decide +kernel, rfl, by decide +kernel, by decide +kernel⟩
abbrev s_is_arc : Stmt := topS 30
theorem sc_is_arc : FnScope ["value", "read", "write", "size", "source", "letter", "word", "target"] ["value", "read", "write", "size"] (defScope s_is_arc) := ⟨rfl, rfl, rfl, by decide +kernel, rfl, by decide +kernel, by decide +kernel⟩
abbrev s_pair_key : Stmt := topS 31
theorem sc_pair_key : FnScope ["pair", "state", "word"] ["pair"] (defScope s_pair_key) := ⟨rfl, rfl, rfl, by decide +kernel, rfl, by decide +kernel, by decide +kernel⟩
abbrev s_arc_key : Stmt := topS 32
theorem sc_arc_key : FnScope ["arc", "source", "letter", "word", "target"] ["arc"] (defScope s_arc_key) := ⟨rfl, rfl, rfl, by decide +kernel, rfl, by decide +kernel, by decide +kernel⟩
abbrev s_check_many : Stmt := topS 33
theorem sc_check_many : FnScope ["place", "entries"] ["place", "entries"] (defScope s_check_many) := ⟨rfl, rfl, rfl, by decide +kernel, rfl, by decide +kernel, by decide +kernel⟩
abbrev s_checked_pairs : Stmt := topS 34
theorem sc_checked_pairs : FnScope ["place", "entries", "write", "size", "index", "entry"] ["place", "entries", "write", "size"] (defScope s_checked_pairs) := ⟨rfl, rfl, rfl, by decide +kernel, rfl, by decide +kernel, by decide +kernel⟩
abbrev s_checked_arcs : Stmt := topS 35
theorem sc_checked_arcs : FnScope ["entries", "read", "write", "size", "index", "entry"] ["entries", "read", "write", "size"] (defScope s_checked_arcs) := ⟨rfl, rfl, rfl, by decide +kernel, rfl, by decide +kernel, by decide +kernel⟩
abbrev s_mix : Stmt := topS 37
theorem sc_mix : FnScope ["number", "tick", "one", "two"] ["number", "tick"] (defScope s_mix) := ⟨rfl, rfl, rfl, by decide +kernel, rfl, by decide +kernel, by decide +kernel⟩
abbrev s_store : Stmt := topS 38
theorem sc_store : FnScope ["script", "seed", "cell"] ["script"] (defScope s_store) := ⟨rfl, rfl, rfl, by decide +kernel, rfl, by decide +kernel, by decide +kernel⟩
abbrev s_take : Stmt := topS 39
theorem sc_take : FnScope ["store", "many", "cells", "cell", "digit"] ["store", "many"] (defScope s_take) := ⟨rfl, rfl, rfl, by decide +kernel, rfl, by decide +kernel, by decide +kernel⟩
abbrev s_pick : Stmt := topS 40
theorem sc_pick : FnScope ["store", "row"] ["store", "row"] (defScope s_pick) := ⟨rfl, rfl, rfl, by decide +kernel, rfl, by decide +kernel, by decide +kernel⟩
abbrev s_between : Stmt := topS 41
theorem sc_between : FnScope ["store", "low", "high", "draw"] ["store", "low", "high"] (defScope s_between) := ⟨rfl, rfl, rfl, by decide +kernel, rfl, by decide +kernel, by decide +kernel⟩
abbrev s_worn : Stmt := topS 42
theorem sc_worn : FnScope ["store", "row"] ["store", "row"] (defScope s_worn) := ⟨rfl, rfl, rfl, by decide +kernel, rfl, by decide +kernel, by decide +kernel⟩
abbrev s_letters : Stmt := topS 43
theorem sc_letters : FnScope ["store", "limit", "size", "every", "draw", "at", "word", "k"] ["store", "limit"] (defScope s_letters) := ⟨rfl, rfl, rfl, by decide +kernel, rfl, by decide +kernel, by decide +kernel⟩
abbrev s_stranger : Stmt := topS 44
theorem sc_stranger : FnScope ["store", "letters", "x"] ["store", "letters"] (defScope s_stranger) := ⟨rfl, rfl, rfl, by decide +kernel, rfl, by decide +kernel, by decide +kernel⟩
abbrev s_word : Stmt := topS 45
theorem sc_word : FnScope ["store", "letters", "limit", "draw", "size", "k"] ["store", "letters", "limit"] (defScope s_word) := ⟨rfl, rfl, rfl, by decide +kernel, rfl, by decide +kernel, by decide +kernel⟩
abbrev s_long_word : Stmt := topS 46
theorem sc_long_word : FnScope ["store", "letters", "size", "piece", "word", "at"] ["store", "letters", "size"] (defScope s_long_word) := ⟨rfl, rfl, rfl, by decide +kernel, rfl, by decide +kernel, by decide +kernel⟩
abbrev s_arc : Stmt := topS 47
theorem sc_arc : FnScope ["store", "read", "write", "size", "longest", "letter", "word"] ["store", "read", "write", "size", "longest"] (defScope s_arc) := ⟨rfl, rfl, rfl, by decide +kernel, rfl, by decide +kernel, by decide +kernel⟩
abbrev s_same : Stmt := topS 48
theorem sc_same : FnScope ["actual", "expected", "k"] ["actual", "expected"] (defScope s_same) := ⟨rfl, rfl, rfl, by decide +kernel, rfl, by decide +kernel, by decide +kernel⟩
abbrev s_copy : Stmt := topS 49
theorem sc_copy : FnScope ["value", "item"] ["value"] (defScope s_copy) := ⟨rfl, rfl, rfl, by decide +kernel, rfl, by decide +kernel, by decide +kernel⟩
abbrev s_refusal : Stmt := topS 50
theorem sc_refusal : FnScope ["action", "told", "e"] ["action"] (defScope s_refusal) := ⟨rfl, rfl, rfl, by decide +kernel, rfl, by decide +kernel, by decide +kernel⟩
abbrev s_good_parts : Stmt := topS 51
theorem sc_good_parts : FnScope ["store", "parts", "at", "k"] ["store"] (defScope s_good_parts) := ⟨rfl, rfl, rfl, by decide +kernel, rfl, by decide +kernel, by decide +kernel⟩
abbrev s_good_entry : Stmt := topS 52
theorem sc_good_entry : FnScope ["store", "parts", "at"] ["store", "parts", "at"] (defScope s_good_entry) := ⟨rfl, rfl, rfl, by decide +kernel, rfl, by decide +kernel, by decide +kernel⟩
abbrev s_wrong_number : Stmt := topS 53
theorem sc_wrong_number : FnScope ["store", "high"] ["store", "high"] (defScope s_wrong_number) := ⟨rfl, rfl, rfl, by decide +kernel, rfl, by decide +kernel, by decide +kernel⟩
abbrev s_wrong_letters : Stmt := topS 54
theorem sc_wrong_letters : FnScope ["store", "letters", "row"] ["store", "letters"] (defScope s_wrong_letters) := ⟨rfl, rfl, rfl, by decide +kernel, rfl, by decide +kernel, by decide +kernel⟩
abbrev s_wrong_word : Stmt := topS 55
theorem sc_wrong_word : FnScope ["store", "letters", "word", "at", "bad", "row"] ["store", "letters"] (defScope s_wrong_word) := ⟨rfl, rfl, rfl, by decide +kernel, rfl, by decide +kernel, by decide +kernel⟩
abbrev s_wrong_letter : Stmt := topS 56
theorem sc_wrong_letter : FnScope ["store", "letters", "letter", "row"] ["store", "letters"] (defScope s_wrong_letter) := ⟨rfl, rfl, rfl, by decide +kernel, rfl, by decide +kernel, by decide +kernel⟩
abbrev s_wrong_entry : Stmt := topS 57
theorem sc_wrong_entry : FnScope ["store", "parts", "at", "good", "draw", "row", "place"] ["store", "parts", "at"] (defScope s_wrong_entry) := ⟨rfl, rfl, rfl, by decide +kernel, rfl, by decide +kernel, by decide +kernel⟩
abbrev s_spoilt : Stmt := topS 58
theorem sc_spoilt : FnScope ["store", "parts", "spoilt", "at", "name", "place", "draw", "due", "row"] ["store", "parts"] (defScope s_spoilt) := ⟨rfl, rfl, rfl, by decide +kernel, rfl, by decide +kernel, by decide +kernel⟩
abbrev s_made : Stmt := topS 59
theorem sc_made : FnScope ["parts"] ["parts"] (defScope s_made) := ⟨rfl, rfl, rfl, by decide +kernel, rfl, by decide +kernel, by decide +kernel⟩
abbrev s_order_key : Stmt := topS 60
theorem sc_order_key : FnScope ["entry"] ["entry"] (defScope s_order_key) := ⟨rfl, rfl, rfl, by decide +kernel, rfl, by decide +kernel, by decide +kernel⟩
abbrev s_told_right : Stmt := topS 61
theorem sc_told_right : FnScope ["machine", "parts", "due", "row", "kept", "k"] ["machine", "parts"] (defScope s_told_right) := ⟨rfl, rfl, rfl, by decide +kernel, rfl, by decide +kernel, by decide +kernel⟩
abbrev s_refused_right : Stmt := topS 62
theorem sc_refused_right : FnScope ["spoilt", "due", "kept", "tick"] ["spoilt", "due"] (defScope s_refused_right) := ⟨rfl, rfl, rfl, by decide +kernel, rfl, by decide +kernel, by decide +kernel⟩
abbrev s_mended_right : Stmt := topS 63
theorem sc_mended_right : FnScope ["store", "parts", "at", "rows", "place", "mended", "row"] ["store", "parts"] (defScope s_mended_right) := ⟨rfl, rfl, rfl, by decide +kernel, rfl, by decide +kernel, by decide +kernel⟩
abbrev s_law : Stmt := topS 64
theorem sc_law : FnScope ["script", "store", "k", "plan", "bad", "parts"] ["script"] (defScope s_law) := ⟨rfl, rfl, rfl, by decide +kernel, rfl, by decide +kernel, by decide +kernel⟩
abbrev si_BadLetters : Stmt := inCls (topS 5) 0
theorem sci_BadLetters : FnScope ["self", "value"] ["self", "value"] (defScope si_BadLetters) := ⟨rfl, rfl, rfl, by decide +kernel, rfl, by decide +kernel, by decide +kernel⟩
abbrev si_BadWord : Stmt := inCls (topS 6) 0
theorem sci_BadWord : FnScope ["self", "value"] ["self", "value"] (defScope si_BadWord) := ⟨rfl, rfl, rfl, by decide +kernel, rfl, by decide +kernel, by decide +kernel⟩
abbrev si_BadNumber : Stmt := inCls (topS 7) 0
theorem sci_BadNumber : FnScope ["self", "value"] ["self", "value"] (defScope si_BadNumber) := ⟨rfl, rfl, rfl, by decide +kernel, rfl, by decide +kernel, by decide +kernel⟩
abbrev si_BadName : Stmt := inCls (topS 8) 0
theorem sci_BadName : FnScope ["self", "value"] ["self", "value"] (defScope si_BadName) := ⟨rfl, rfl, rfl, by decide +kernel, rfl, by decide +kernel, by decide +kernel⟩
abbrev si_BadEntry : Stmt := inCls (topS 9) 0
theorem sci_BadEntry : FnScope ["self", "place", "index"] ["self", "place", "index"] (defScope si_BadEntry) := ⟨rfl, rfl, rfl, by decide +kernel, rfl, by decide +kernel, by decide +kernel⟩
abbrev si_BadLine : Stmt := inCls (topS 10) 0
theorem sci_BadLine : FnScope ["self", "line", "place"] ["self", "line", "place"] (defScope si_BadLine) := ⟨rfl, rfl, rfl, by decide +kernel, rfl, by decide +kernel, by decide +kernel⟩
abbrev si_TooLarge : Stmt := inCls (topS 12) 0
theorem sci_TooLarge : FnScope ["self", "what", "limit"] ["self", "what", "limit"] (defScope si_TooLarge) := ⟨rfl, rfl, rfl, by decide +kernel, rfl, by decide +kernel, by decide +kernel⟩
abbrev s_Machine___init__ : Stmt := inCls (topS 28) 0
theorem sc_Machine___init__ : FnScope ["self", "read", "write", "size", "begins", "arcs", "ends"] ["self", "read", "write", "size", "begins", "arcs", "ends"] (defScope s_Machine___init__) := ⟨rfl, rfl, rfl, by decide +kernel, rfl, by decide +kernel, by decide +kernel⟩
abbrev s_Machine_read : Stmt := inCls (topS 28) 1
theorem sc_Machine_read : FnScope ["self"] ["self"] (defScope s_Machine_read) := ⟨rfl, rfl, rfl, by decide +kernel, rfl, by decide +kernel, by decide +kernel⟩
abbrev s_Machine_write : Stmt := inCls (topS 28) 2
theorem sc_Machine_write : FnScope ["self"] ["self"] (defScope s_Machine_write) := ⟨rfl, rfl, rfl, by decide +kernel, rfl, by decide +kernel, by decide +kernel⟩
abbrev s_Machine_size : Stmt := inCls (topS 28) 3
theorem sc_Machine_size : FnScope ["self"] ["self"] (defScope s_Machine_size) := ⟨rfl, rfl, rfl, by decide +kernel, rfl, by decide +kernel, by decide +kernel⟩
abbrev s_Machine_begins : Stmt := inCls (topS 28) 4
theorem sc_Machine_begins : FnScope ["self"] ["self"] (defScope s_Machine_begins) := ⟨rfl, rfl, rfl, by decide +kernel, rfl, by decide +kernel, by decide +kernel⟩
abbrev s_Machine_arcs : Stmt := inCls (topS 28) 5
theorem sc_Machine_arcs : FnScope ["self"] ["self"] (defScope s_Machine_arcs) := ⟨rfl, rfl, rfl, by decide +kernel, rfl, by decide +kernel, by decide +kernel⟩
abbrev s_Machine_ends : Stmt := inCls (topS 28) 6
theorem sc_Machine_ends : FnScope ["self"] ["self"] (defScope s_Machine_ends) := ⟨rfl, rfl, rfl, by decide +kernel, rfl, by decide +kernel, by decide +kernel⟩
abbrev s_Machine___len__ : Stmt := inCls (topS 28) 7
theorem sc_Machine___len__ : FnScope ["self"] ["self"] (defScope s_Machine___len__) := ⟨rfl, rfl, rfl, by decide +kernel, rfl, by decide +kernel, by decide +kernel⟩
abbrev s_Machine___iter__ : Stmt := inCls (topS 28) 8
theorem sc_Machine___iter__ : FnScope ["self"] ["self"] (defScope s_Machine___iter__) := ⟨rfl, rfl, rfl, by decide +kernel, rfl, by decide +kernel, by decide +kernel⟩
structure Txt [Tabl] (K : PySem.W.Frag) (mg : Str → Option Value) (base : Heap) where
  f_is_whole : Addr
  fd_is_whole : FuncData
  F_is_whole : Fun K "is_whole" "is_whole" s_is_whole f_is_whole fd_is_whole
  b_is_whole : Binds K fd_is_whole ["value"] []
  g_is_whole : mg "is_whole" = some (.ref f_is_whole)
  f_in_range : Addr
  fd_in_range : FuncData
  F_in_range : Fun K "in_range" "in_range" s_in_range f_in_range fd_in_range
  b_in_range : Binds K fd_in_range ["value", "low", "high"] []
  g_in_range : mg "in_range" = some (.ref f_in_range)
  f_check_number : Addr
  fd_check_number : FuncData
  F_check_number : Fun K "check_number" "check_number" s_check_number f_check_number fd_check_number
  b_check_number : Binds K fd_check_number ["value", "low", "high"] []
  g_check_number : mg "check_number" = some (.ref f_check_number)
  f_is_letters : Addr
  fd_is_letters : FuncData
  C_is_letters : Addr
  P_is_letters : Addr
  F_is_letters : FunC K "is_letters" "is_letters" s_is_letters f_is_letters fd_is_letters C_is_letters
  B_is_letters : LamX.TabB base mg C_is_letters P_is_letters
  m_is_letters : (P_is_letters, (Str.ofString "is_letters" ++ ".<locals>.") ++ "<genexpr>") ∈ Tabl.T
  b_is_letters : Binds K fd_is_letters ["value"] []
  g_is_letters : mg "is_letters" = some (.ref f_is_letters)
  f_is_letter : Addr
  fd_is_letter : FuncData
  F_is_letter : Fun K "is_letter" "is_letter" s_is_letter f_is_letter fd_is_letter
  b_is_letter : Binds K fd_is_letter ["letters", "value"] []
  g_is_letter : mg "is_letter" = some (.ref f_is_letter)
  f_is_word : Addr
  fd_is_word : FuncData
  C_is_word : Addr
  P_is_word : Addr
  F_is_word : FunC K "is_word" "is_word" s_is_word f_is_word fd_is_word C_is_word
  B_is_word : LamX.TabB base mg C_is_word P_is_word
  m_is_word : (P_is_word, (Str.ofString "is_word" ++ ".<locals>.") ++ "<genexpr>") ∈ Tabl.T
  b_is_word : Binds K fd_is_word ["letters", "value"] []
  g_is_word : mg "is_word" = some (.ref f_is_word)
  f_is_word_up_to : Addr
  fd_is_word_up_to : FuncData
  F_is_word_up_to : Fun K "is_word_up_to" "is_word_up_to" s_is_word_up_to f_is_word_up_to fd_is_word_up_to
  b_is_word_up_to : Binds K fd_is_word_up_to ["letters", "value", "most"] []
  g_is_word_up_to : mg "is_word_up_to" = some (.ref f_is_word_up_to)
  f_check_letters : Addr
  fd_check_letters : FuncData
  F_check_letters : Fun K "check_letters" "check_letters" s_check_letters f_check_letters fd_check_letters
  b_check_letters : Binds K fd_check_letters ["letters"] []
  g_check_letters : mg "check_letters" = some (.ref f_check_letters)
  f_word_key : Addr
  fd_word_key : FuncData
  F_word_key : Fun K "word_key" "word_key" s_word_key f_word_key fd_word_key
  b_word_key : Binds K fd_word_key ["word"] []
  g_word_key : mg "word_key" = some (.ref f_word_key)
  f_is_pair : Addr
  fd_is_pair : FuncData
  F_is_pair : Fun K "is_pair" "is_pair" s_is_pair f_is_pair fd_is_pair
  b_is_pair : Binds K fd_is_pair ["value", "write", "size"] []
  g_is_pair : mg "is_pair" = some (.ref f_is_pair)
  f_is_arc : Addr
  fd_is_arc : FuncData
  F_is_arc : Fun K "is_arc" "is_arc" s_is_arc f_is_arc fd_is_arc
  b_is_arc : Binds K fd_is_arc ["value", "read", "write", "size"] []
  g_is_arc : mg "is_arc" = some (.ref f_is_arc)
  f_pair_key : Addr
  fd_pair_key : FuncData
  F_pair_key : Fun K "pair_key" "pair_key" s_pair_key f_pair_key fd_pair_key
  b_pair_key : Binds K fd_pair_key ["pair"] []
  g_pair_key : mg "pair_key" = some (.ref f_pair_key)
  f_arc_key : Addr
  fd_arc_key : FuncData
  F_arc_key : Fun K "arc_key" "arc_key" s_arc_key f_arc_key fd_arc_key
  b_arc_key : Binds K fd_arc_key ["arc"] []
  g_arc_key : mg "arc_key" = some (.ref f_arc_key)
  f_check_many : Addr
  fd_check_many : FuncData
  F_check_many : Fun K "check_many" "check_many" s_check_many f_check_many fd_check_many
  b_check_many : Binds K fd_check_many ["place", "entries"] []
  g_check_many : mg "check_many" = some (.ref f_check_many)
  f_checked_pairs : Addr
  fd_checked_pairs : FuncData
  F_checked_pairs : Fun K "checked_pairs" "checked_pairs" s_checked_pairs f_checked_pairs fd_checked_pairs
  b_checked_pairs : Binds K fd_checked_pairs ["place", "entries", "write", "size"] []
  g_checked_pairs : mg "checked_pairs" = some (.ref f_checked_pairs)
  f_checked_arcs : Addr
  fd_checked_arcs : FuncData
  F_checked_arcs : Fun K "checked_arcs" "checked_arcs" s_checked_arcs f_checked_arcs fd_checked_arcs
  b_checked_arcs : Binds K fd_checked_arcs ["entries", "read", "write", "size"] []
  g_checked_arcs : mg "checked_arcs" = some (.ref f_checked_arcs)
  f_mix : Addr
  fd_mix : FuncData
  F_mix : Fun K "_law_mix" "_law_mix" s_mix f_mix fd_mix
  b_mix : Binds K fd_mix ["number", "tick"] []
  g_mix : mg "_law_mix" = some (.ref f_mix)
  f_store : Addr
  fd_store : FuncData
  F_store : Fun K "_law_store" "_law_store" s_store f_store fd_store
  b_store : Binds K fd_store ["script"] []
  g_store : mg "_law_store" = some (.ref f_store)
  f_take : Addr
  fd_take : FuncData
  F_take : Fun K "_law_take" "_law_take" s_take f_take fd_take
  b_take : Binds K fd_take ["store", "many"] []
  g_take : mg "_law_take" = some (.ref f_take)
  f_pick : Addr
  fd_pick : FuncData
  F_pick : Fun K "_law_pick" "_law_pick" s_pick f_pick fd_pick
  b_pick : Binds K fd_pick ["store", "row"] []
  g_pick : mg "_law_pick" = some (.ref f_pick)
  f_between : Addr
  fd_between : FuncData
  F_between : Fun K "_law_between" "_law_between" s_between f_between fd_between
  b_between : Binds K fd_between ["store", "low", "high"] []
  g_between : mg "_law_between" = some (.ref f_between)
  f_worn : Addr
  fd_worn : FuncData
  F_worn : Fun K "_law_worn" "_law_worn" s_worn f_worn fd_worn
  b_worn : Binds K fd_worn ["store", "row"] []
  g_worn : mg "_law_worn" = some (.ref f_worn)
  f_letters : Addr
  fd_letters : FuncData
  F_letters : Fun K "_law_letters" "_law_letters" s_letters f_letters fd_letters
  b_letters : Binds K fd_letters ["store", "limit"] []
  g_letters : mg "_law_letters" = some (.ref f_letters)
  f_stranger : Addr
  fd_stranger : FuncData
  F_stranger : Fun K "_law_stranger" "_law_stranger" s_stranger f_stranger fd_stranger
  b_stranger : Binds K fd_stranger ["store", "letters"] []
  g_stranger : mg "_law_stranger" = some (.ref f_stranger)
  f_word : Addr
  fd_word : FuncData
  F_word : Fun K "_law_word" "_law_word" s_word f_word fd_word
  b_word : Binds K fd_word ["store", "letters", "limit"] []
  g_word : mg "_law_word" = some (.ref f_word)
  f_long_word : Addr
  fd_long_word : FuncData
  F_long_word : Fun K "_law_long_word" "_law_long_word" s_long_word f_long_word fd_long_word
  b_long_word : Binds K fd_long_word ["store", "letters", "size"] []
  g_long_word : mg "_law_long_word" = some (.ref f_long_word)
  f_arc : Addr
  fd_arc : FuncData
  F_arc : Fun K "_law_arc" "_law_arc" s_arc f_arc fd_arc
  b_arc : Binds K fd_arc ["store", "read", "write", "size", "longest"] []
  g_arc : mg "_law_arc" = some (.ref f_arc)
  f_same : Addr
  fd_same : FuncData
  F_same : Fun K "_law_same" "_law_same" s_same f_same fd_same
  b_same : Binds K fd_same ["actual", "expected"] []
  g_same : mg "_law_same" = some (.ref f_same)
  f_copy : Addr
  fd_copy : FuncData
  F_copy : Fun K "_law_copy" "_law_copy" s_copy f_copy fd_copy
  b_copy : Binds K fd_copy ["value"] []
  g_copy : mg "_law_copy" = some (.ref f_copy)
  f_refusal : Addr
  fd_refusal : FuncData
  F_refusal : Fun K "_law_refusal" "_law_refusal" s_refusal f_refusal fd_refusal
  b_refusal : Binds K fd_refusal ["action"] []
  g_refusal : mg "_law_refusal" = some (.ref f_refusal)
  f_good_parts : Addr
  fd_good_parts : FuncData
  F_good_parts : Fun K "_law_good_parts" "_law_good_parts" s_good_parts f_good_parts fd_good_parts
  b_good_parts : Binds K fd_good_parts ["store"] []
  g_good_parts : mg "_law_good_parts" = some (.ref f_good_parts)
  f_good_entry : Addr
  fd_good_entry : FuncData
  F_good_entry : Fun K "_law_good_entry" "_law_good_entry" s_good_entry f_good_entry fd_good_entry
  b_good_entry : Binds K fd_good_entry ["store", "parts", "at"] []
  g_good_entry : mg "_law_good_entry" = some (.ref f_good_entry)
  f_wrong_number : Addr
  fd_wrong_number : FuncData
  F_wrong_number : Fun K "_law_wrong_number" "_law_wrong_number" s_wrong_number f_wrong_number fd_wrong_number
  b_wrong_number : Binds K fd_wrong_number ["store", "high"] []
  g_wrong_number : mg "_law_wrong_number" = some (.ref f_wrong_number)
  f_wrong_letters : Addr
  fd_wrong_letters : FuncData
  F_wrong_letters : Fun K "_law_wrong_letters" "_law_wrong_letters" s_wrong_letters f_wrong_letters fd_wrong_letters
  b_wrong_letters : Binds K fd_wrong_letters ["store", "letters"] []
  g_wrong_letters : mg "_law_wrong_letters" = some (.ref f_wrong_letters)
  f_wrong_word : Addr
  fd_wrong_word : FuncData
  F_wrong_word : Fun K "_law_wrong_word" "_law_wrong_word" s_wrong_word f_wrong_word fd_wrong_word
  b_wrong_word : Binds K fd_wrong_word ["store", "letters"] []
  g_wrong_word : mg "_law_wrong_word" = some (.ref f_wrong_word)
  f_wrong_letter : Addr
  fd_wrong_letter : FuncData
  F_wrong_letter : Fun K "_law_wrong_letter" "_law_wrong_letter" s_wrong_letter f_wrong_letter fd_wrong_letter
  b_wrong_letter : Binds K fd_wrong_letter ["store", "letters"] []
  g_wrong_letter : mg "_law_wrong_letter" = some (.ref f_wrong_letter)
  f_wrong_entry : Addr
  fd_wrong_entry : FuncData
  F_wrong_entry : Fun K "_law_wrong_entry" "_law_wrong_entry" s_wrong_entry f_wrong_entry fd_wrong_entry
  b_wrong_entry : Binds K fd_wrong_entry ["store", "parts", "at"] []
  g_wrong_entry : mg "_law_wrong_entry" = some (.ref f_wrong_entry)
  f_spoilt : Addr
  fd_spoilt : FuncData
  F_spoilt : Fun K "_law_spoilt" "_law_spoilt" s_spoilt f_spoilt fd_spoilt
  b_spoilt : Binds K fd_spoilt ["store", "parts"] []
  g_spoilt : mg "_law_spoilt" = some (.ref f_spoilt)
  f_made : Addr
  fd_made : FuncData
  F_made : Fun K "_law_made" "_law_made" s_made f_made fd_made
  b_made : Binds K fd_made ["parts"] []
  g_made : mg "_law_made" = some (.ref f_made)
  f_order_key : Addr
  fd_order_key : FuncData
  F_order_key : Fun K "_law_order_key" "_law_order_key" s_order_key f_order_key fd_order_key
  b_order_key : Binds K fd_order_key ["entry"] []
  g_order_key : mg "_law_order_key" = some (.ref f_order_key)
  f_told_right : Addr
  fd_told_right : FuncData
  F_told_right : Fun K "_law_told_right" "_law_told_right" s_told_right f_told_right fd_told_right
  b_told_right : Binds K fd_told_right ["machine", "parts"] []
  g_told_right : mg "_law_told_right" = some (.ref f_told_right)
  f_refused_right : Addr
  fd_refused_right : FuncData
  C_refused_right : Addr
  P_refused_right : Addr
  F_refused_right : FunC K "_law_refused_right" "_law_refused_right" s_refused_right f_refused_right fd_refused_right C_refused_right
  B_refused_right : LamX.TabB base mg C_refused_right P_refused_right
  m_refused_right : (P_refused_right, (Str.ofString "_law_refused_right" ++ ".<locals>.") ++ "<lambda>") ∈ Tabl.T
  b_refused_right : Binds K fd_refused_right ["spoilt", "due"] []
  g_refused_right : mg "_law_refused_right" = some (.ref f_refused_right)
  f_mended_right : Addr
  fd_mended_right : FuncData
  F_mended_right : Fun K "_law_mended_right" "_law_mended_right" s_mended_right f_mended_right fd_mended_right
  b_mended_right : Binds K fd_mended_right ["store", "parts"] []
  g_mended_right : mg "_law_mended_right" = some (.ref f_mended_right)
  f_law : Addr
  fd_law : FuncData
  C_law : Addr
  P_law : Addr
  F_law : FunC K "law" "law" s_law f_law fd_law C_law
  B_law : LamX.TabB base mg C_law P_law
  m_law : (P_law, (Str.ofString "law" ++ ".<locals>.") ++ "<lambda>") ∈ Tabl.T
  b_law : Binds K fd_law ["script"] []
  g_law : mg "law" = some (.ref f_law)
  C_LagError : Addr
  E_LagError : ErrT K mg "LagError" C_LagError
  C_BadLetters : Addr
  E_BadLetters : ErrT K mg "BadLetters" C_BadLetters
  I_BadLetters : Addr
  fdI_BadLetters : FuncData
  FI_BadLetters : Fun K "__init__" "BadLetters.__init__" si_BadLetters I_BadLetters fdI_BadLetters
  bI_BadLetters : Binds K fdI_BadLetters ["self", "value"] []
  iI_BadLetters : PySem.W.findIn K (.ref C_BadLetters) "__init__" = some (some (.ref I_BadLetters))
  tI_BadLetters : PySem.W.typeIn K (.ref I_BadLetters) = some (.type "function")
  no_BadLetters_value : PySem.W.findIn K (.ref C_BadLetters) "value" = some none
  C_BadWord : Addr
  E_BadWord : ErrT K mg "BadWord" C_BadWord
  I_BadWord : Addr
  fdI_BadWord : FuncData
  FI_BadWord : Fun K "__init__" "BadWord.__init__" si_BadWord I_BadWord fdI_BadWord
  bI_BadWord : Binds K fdI_BadWord ["self", "value"] []
  iI_BadWord : PySem.W.findIn K (.ref C_BadWord) "__init__" = some (some (.ref I_BadWord))
  tI_BadWord : PySem.W.typeIn K (.ref I_BadWord) = some (.type "function")
  no_BadWord_value : PySem.W.findIn K (.ref C_BadWord) "value" = some none
  C_BadNumber : Addr
  E_BadNumber : ErrT K mg "BadNumber" C_BadNumber
  I_BadNumber : Addr
  fdI_BadNumber : FuncData
  FI_BadNumber : Fun K "__init__" "BadNumber.__init__" si_BadNumber I_BadNumber fdI_BadNumber
  bI_BadNumber : Binds K fdI_BadNumber ["self", "value"] []
  iI_BadNumber : PySem.W.findIn K (.ref C_BadNumber) "__init__" = some (some (.ref I_BadNumber))
  tI_BadNumber : PySem.W.typeIn K (.ref I_BadNumber) = some (.type "function")
  no_BadNumber_value : PySem.W.findIn K (.ref C_BadNumber) "value" = some none
  C_BadName : Addr
  E_BadName : ErrT K mg "BadName" C_BadName
  I_BadName : Addr
  fdI_BadName : FuncData
  FI_BadName : Fun K "__init__" "BadName.__init__" si_BadName I_BadName fdI_BadName
  bI_BadName : Binds K fdI_BadName ["self", "value"] []
  iI_BadName : PySem.W.findIn K (.ref C_BadName) "__init__" = some (some (.ref I_BadName))
  tI_BadName : PySem.W.typeIn K (.ref I_BadName) = some (.type "function")
  no_BadName_value : PySem.W.findIn K (.ref C_BadName) "value" = some none
  C_BadEntry : Addr
  E_BadEntry : ErrT K mg "BadEntry" C_BadEntry
  I_BadEntry : Addr
  fdI_BadEntry : FuncData
  FI_BadEntry : Fun K "__init__" "BadEntry.__init__" si_BadEntry I_BadEntry fdI_BadEntry
  bI_BadEntry : Binds K fdI_BadEntry ["self", "place", "index"] []
  iI_BadEntry : PySem.W.findIn K (.ref C_BadEntry) "__init__" = some (some (.ref I_BadEntry))
  tI_BadEntry : PySem.W.typeIn K (.ref I_BadEntry) = some (.type "function")
  no_BadEntry_place : PySem.W.findIn K (.ref C_BadEntry) "place" = some none
  no_BadEntry_index : PySem.W.findIn K (.ref C_BadEntry) "index" = some none
  C_BadLine : Addr
  E_BadLine : ErrT K mg "BadLine" C_BadLine
  I_BadLine : Addr
  fdI_BadLine : FuncData
  FI_BadLine : Fun K "__init__" "BadLine.__init__" si_BadLine I_BadLine fdI_BadLine
  bI_BadLine : Binds K fdI_BadLine ["self", "line", "place"] []
  iI_BadLine : PySem.W.findIn K (.ref C_BadLine) "__init__" = some (some (.ref I_BadLine))
  tI_BadLine : PySem.W.typeIn K (.ref I_BadLine) = some (.type "function")
  no_BadLine_line : PySem.W.findIn K (.ref C_BadLine) "line" = some none
  no_BadLine_place : PySem.W.findIn K (.ref C_BadLine) "place" = some none
  C_Mismatch : Addr
  E_Mismatch : ErrT K mg "Mismatch" C_Mismatch
  C_TooLarge : Addr
  E_TooLarge : ErrT K mg "TooLarge" C_TooLarge
  I_TooLarge : Addr
  fdI_TooLarge : FuncData
  FI_TooLarge : Fun K "__init__" "TooLarge.__init__" si_TooLarge I_TooLarge fdI_TooLarge
  bI_TooLarge : Binds K fdI_TooLarge ["self", "what", "limit"] []
  iI_TooLarge : PySem.W.findIn K (.ref C_TooLarge) "__init__" = some (some (.ref I_TooLarge))
  tI_TooLarge : PySem.W.typeIn K (.ref I_TooLarge) = some (.type "function")
  no_TooLarge_what : PySem.W.findIn K (.ref C_TooLarge) "what" = some none
  no_TooLarge_limit : PySem.W.findIn K (.ref C_TooLarge) "limit" = some none
  C_Machine : Addr
  cl_Machine : Cls K C_Machine
  mg_Machine : mg "Machine" = some (.ref C_Machine)
  no_Machine__read : NoAttr K C_Machine "_read"
  no_Machine__write : NoAttr K C_Machine "_write"
  no_Machine__size : NoAttr K C_Machine "_size"
  no_Machine__begins : NoAttr K C_Machine "_begins"
  no_Machine__arcs : NoAttr K C_Machine "_arcs"
  no_Machine__ends : NoAttr K C_Machine "_ends"
  f_Machine___init__ : Addr
  fd_Machine___init__ : FuncData
  F_Machine___init__ : Fun K "__init__" "Machine.__init__" s_Machine___init__ f_Machine___init__ fd_Machine___init__
  M_Machine : Mk K C_Machine f_Machine___init__
  kt_Machine_begins : Addr
  ke_Machine_begins : Own.KT0 K kt_Machine_begins
  kt_Machine_arcs : Addr
  ke_Machine_arcs : Own.KT0 K kt_Machine_arcs
  kt_Machine_ends : Addr
  ke_Machine_ends : Own.KT0 K kt_Machine_ends
  ka_Machine_0 : List Value
  kb_Machine_0 : KBn K fd_Machine___init__ ["self", "read", "write", "size", "begins", "arcs", "ends"] 4 ["begins", "arcs", "ends"] (fun us ws => us ++ (((ws.drop 0).take 1) ++ (((ws.drop 1).take 1) ++ (((ws.drop 2).take 1))))) (fun us ws => us ++ (((ws.drop 0).take 1) ++ (((ws.drop 1).take 1) ++ (((ws.drop 2).take 1)))))
  ka_Machine_1 : List Value
  kb_Machine_1 : KBn K fd_Machine___init__ ["self", "read", "write", "size", "begins", "arcs", "ends"] 4 ["ends"] (fun us ws => us ++ (((ka_Machine_1.drop 0).take 1) ++ (((ka_Machine_1.drop 1).take 1) ++ (((ws.drop 0).take 1))))) (fun us ws => us ++ (((([.ref kt_Machine_begins, .ref kt_Machine_arcs] : List V).drop 0).take 1) ++ (((([.ref kt_Machine_begins, .ref kt_Machine_arcs] : List V).drop 1).take 1) ++ (((ws.drop 0).take 1)))))
  f_Machine_read : Addr
  fd_Machine_read : FuncData
  F_Machine_read : Fun K "read" "Machine.read" s_Machine_read f_Machine_read fd_Machine_read
  b_Machine_read : Binds K fd_Machine_read ["self"] []
  pa_Machine_read : Addr
  p_Machine_read : PropOf K C_Machine "read" pa_Machine_read f_Machine_read
  f_Machine_write : Addr
  fd_Machine_write : FuncData
  F_Machine_write : Fun K "write" "Machine.write" s_Machine_write f_Machine_write fd_Machine_write
  b_Machine_write : Binds K fd_Machine_write ["self"] []
  pa_Machine_write : Addr
  p_Machine_write : PropOf K C_Machine "write" pa_Machine_write f_Machine_write
  f_Machine_size : Addr
  fd_Machine_size : FuncData
  F_Machine_size : Fun K "size" "Machine.size" s_Machine_size f_Machine_size fd_Machine_size
  b_Machine_size : Binds K fd_Machine_size ["self"] []
  pa_Machine_size : Addr
  p_Machine_size : PropOf K C_Machine "size" pa_Machine_size f_Machine_size
  f_Machine_begins : Addr
  fd_Machine_begins : FuncData
  F_Machine_begins : Fun K "begins" "Machine.begins" s_Machine_begins f_Machine_begins fd_Machine_begins
  b_Machine_begins : Binds K fd_Machine_begins ["self"] []
  pa_Machine_begins : Addr
  p_Machine_begins : PropOf K C_Machine "begins" pa_Machine_begins f_Machine_begins
  f_Machine_arcs : Addr
  fd_Machine_arcs : FuncData
  F_Machine_arcs : Fun K "arcs" "Machine.arcs" s_Machine_arcs f_Machine_arcs fd_Machine_arcs
  b_Machine_arcs : Binds K fd_Machine_arcs ["self"] []
  pa_Machine_arcs : Addr
  p_Machine_arcs : PropOf K C_Machine "arcs" pa_Machine_arcs f_Machine_arcs
  f_Machine_ends : Addr
  fd_Machine_ends : FuncData
  F_Machine_ends : Fun K "ends" "Machine.ends" s_Machine_ends f_Machine_ends fd_Machine_ends
  b_Machine_ends : Binds K fd_Machine_ends ["self"] []
  pa_Machine_ends : Addr
  p_Machine_ends : PropOf K C_Machine "ends" pa_Machine_ends f_Machine_ends
  f_Machine___len__ : Addr
  fd_Machine___len__ : FuncData
  F_Machine___len__ : Fun K "__len__" "Machine.__len__" s_Machine___len__ f_Machine___len__ fd_Machine___len__
  b_Machine___len__ : Binds K fd_Machine___len__ ["self"] []
  h_Machine___len__ : PySem.W.findIn K (.ref C_Machine) "__len__" = some (some (.ref f_Machine___len__))
  i_Machine___len__ : PySem.W.isFn K (.ref f_Machine___len__) = true
  f_Machine___iter__ : Addr
  fd_Machine___iter__ : FuncData
  F_Machine___iter__ : Fun K "__iter__" "Machine.__iter__" s_Machine___iter__ f_Machine___iter__ fd_Machine___iter__
  b_Machine___iter__ : Binds K fd_Machine___iter__ ["self"] []
  h_Machine___iter__ : PySem.W.findIn K (.ref C_Machine) "__iter__" = some (some (.ref f_Machine___iter__))
  i_Machine___iter__ : PySem.W.isFn K (.ref f_Machine___iter__) = true
  k_BadNumber_BadLetters : PySem.W.kitOne K (.ref C_BadNumber) (.ref C_BadLetters) = some false
  k_BadNumber_BadNumber : PySem.W.kitOne K (.ref C_BadNumber) (.ref C_BadNumber) = some true
  k_BadNumber_BadEntry : PySem.W.kitOne K (.ref C_BadNumber) (.ref C_BadEntry) = some false
  k_BadNumber_TooLarge : PySem.W.kitOne K (.ref C_BadNumber) (.ref C_TooLarge) = some false
  k_BadNumber_BadWord : PySem.W.kitOne K (.ref C_BadNumber) (.ref C_BadWord) = some false
  k_BadNumber_BadName : PySem.W.kitOne K (.ref C_BadNumber) (.ref C_BadName) = some false
  k_BadNumber_BadLine : PySem.W.kitOne K (.ref C_BadNumber) (.ref C_BadLine) = some false
  k_BadNumber_Mismatch : PySem.W.kitOne K (.ref C_BadNumber) (.ref C_Mismatch) = some false
  k_BadNumber_ValueError : PySem.W.kitOne K (.ref C_BadNumber) (.type "ValueError") = some true
  x_BadNumber_LagError : PySem.W.exmOne K (.ref C_BadNumber) (.ref C_LagError) = some true
  k_BadLetters_BadLetters : PySem.W.kitOne K (.ref C_BadLetters) (.ref C_BadLetters) = some true
  k_BadLetters_BadNumber : PySem.W.kitOne K (.ref C_BadLetters) (.ref C_BadNumber) = some false
  k_BadLetters_BadEntry : PySem.W.kitOne K (.ref C_BadLetters) (.ref C_BadEntry) = some false
  k_BadLetters_TooLarge : PySem.W.kitOne K (.ref C_BadLetters) (.ref C_TooLarge) = some false
  k_BadLetters_BadWord : PySem.W.kitOne K (.ref C_BadLetters) (.ref C_BadWord) = some false
  k_BadLetters_BadName : PySem.W.kitOne K (.ref C_BadLetters) (.ref C_BadName) = some false
  k_BadLetters_BadLine : PySem.W.kitOne K (.ref C_BadLetters) (.ref C_BadLine) = some false
  k_BadLetters_Mismatch : PySem.W.kitOne K (.ref C_BadLetters) (.ref C_Mismatch) = some false
  k_BadLetters_ValueError : PySem.W.kitOne K (.ref C_BadLetters) (.type "ValueError") = some true
  x_BadLetters_LagError : PySem.W.exmOne K (.ref C_BadLetters) (.ref C_LagError) = some true
  k_BadEntry_BadLetters : PySem.W.kitOne K (.ref C_BadEntry) (.ref C_BadLetters) = some false
  k_BadEntry_BadNumber : PySem.W.kitOne K (.ref C_BadEntry) (.ref C_BadNumber) = some false
  k_BadEntry_BadEntry : PySem.W.kitOne K (.ref C_BadEntry) (.ref C_BadEntry) = some true
  k_BadEntry_TooLarge : PySem.W.kitOne K (.ref C_BadEntry) (.ref C_TooLarge) = some false
  k_BadEntry_BadWord : PySem.W.kitOne K (.ref C_BadEntry) (.ref C_BadWord) = some false
  k_BadEntry_BadName : PySem.W.kitOne K (.ref C_BadEntry) (.ref C_BadName) = some false
  k_BadEntry_BadLine : PySem.W.kitOne K (.ref C_BadEntry) (.ref C_BadLine) = some false
  k_BadEntry_Mismatch : PySem.W.kitOne K (.ref C_BadEntry) (.ref C_Mismatch) = some false
  k_BadEntry_ValueError : PySem.W.kitOne K (.ref C_BadEntry) (.type "ValueError") = some true
  x_BadEntry_LagError : PySem.W.exmOne K (.ref C_BadEntry) (.ref C_LagError) = some true
  k_TooLarge_BadLetters : PySem.W.kitOne K (.ref C_TooLarge) (.ref C_BadLetters) = some false
  k_TooLarge_BadNumber : PySem.W.kitOne K (.ref C_TooLarge) (.ref C_BadNumber) = some false
  k_TooLarge_BadEntry : PySem.W.kitOne K (.ref C_TooLarge) (.ref C_BadEntry) = some false
  k_TooLarge_TooLarge : PySem.W.kitOne K (.ref C_TooLarge) (.ref C_TooLarge) = some true
  k_TooLarge_BadWord : PySem.W.kitOne K (.ref C_TooLarge) (.ref C_BadWord) = some false
  k_TooLarge_BadName : PySem.W.kitOne K (.ref C_TooLarge) (.ref C_BadName) = some false
  k_TooLarge_BadLine : PySem.W.kitOne K (.ref C_TooLarge) (.ref C_BadLine) = some false
  k_TooLarge_Mismatch : PySem.W.kitOne K (.ref C_TooLarge) (.ref C_Mismatch) = some false
  k_TooLarge_ValueError : PySem.W.kitOne K (.ref C_TooLarge) (.type "ValueError") = some true
  x_TooLarge_LagError : PySem.W.exmOne K (.ref C_TooLarge) (.ref C_LagError) = some true
  z_ValueError : mg "ValueError" = none
  z_all : mg "all" = none
  z_bool : mg "bool" = none
  z_enumerate : mg "enumerate" = none
  z_int : mg "int" = none
  z_isinstance : mg "isinstance" = none
  z_iter : mg "iter" = none
  z_len : mg "len" = none
  z_list : mg "list" = none
  z_max : mg "max" = none
  z_min : mg "min" = none
  z_range : mg "range" = none
  z_set : mg "set" = none
  z_sorted : mg "sorted" = none
  z_str : mg "str" = none
  z_tuple : mg "tuple" = none
  t_MAX_LETTERS : Tok
  c_MAX_LETTERS : mg "MAX_LETTERS" = some (.int 4 t_MAX_LETTERS)
  t_MAX_WRITTEN : Tok
  c_MAX_WRITTEN : mg "MAX_WRITTEN" = some (.int 400 t_MAX_WRITTEN)
  t_MAX_STATES : Tok
  c_MAX_STATES : mg "MAX_STATES" = some (.int 64 t_MAX_STATES)
  t_MAX_ENTRIES : Tok
  c_MAX_ENTRIES : mg "MAX_ENTRIES" = some (.int 400 t_MAX_ENTRIES)
  t_SMALL_LETTERS : Tok
  c_SMALL_LETTERS : mg "SMALL_LETTERS" = some (.str "abcdefghijklmnopqrstuvwxyz" t_SMALL_LETTERS)
section
variable [Tabl] {P : Program} {w : World} {K : PySem.W.Frag} {mg : Str → Option Value} {base : Heap}
theorem sing_list {l : List Str} {a : List Nat} (nd : l.Nodup) (m : ∀ k, k ∈ l ↔ ∃ c ∈ a, k = PySem.Froz.sing c) : ∃ ns : List Nat, l = ns.map PySem.Froz.sing ∧ ns.Nodup ∧ ∀ c, c ∈ ns ↔ c ∈ a := by
  have e : l = (l.map fun k => (cs k).headD 0).map PySem.Froz.sing := by
    rw [List.map_map]
    refine (List.map_id'' (fun _ => rfl) l).symm.trans (List.map_congr_left fun k hk => ?_)
    obtain ⟨c, _, rfl⟩ := (m k).mp hk
    rfl
  refine ⟨_, e, ?_, fun c => ?_⟩
  · rw [e] at nd
    exact (List.Pairwise.of_map PySem.Froz.sing (fun a b hne q => hne (congrArg _ q)) nd)
  · constructor
    · intro h
      obtain ⟨k, hk, e2⟩ := List.mem_map.mp h
      obtain ⟨d, hd, rfl⟩ := (m k).mp hk
      have : d = c := e2
      rw [← this]
      exact hd
    · intro h
      exact List.mem_map.mpr ⟨PySem.Froz.sing c, (m _).mpr ⟨c, h, rfl⟩, rfl⟩
def sp_is_letters (_ : PySem.W.Frag) : Sp := fun vs H Q _ => ∃ v : V, vs = [v] ∧ Shal H v ∧ Good H ∧ ∀ (b : Bool) (H' : Hp), (b = true ↔ ∃ x, v = .str x ∧ IsAlpha x) → Same H H' → Q (.bl b) H'
theorem ok_is_letters (T : Txt K mg base) : FnOk P w K mg base CX0 (0 + 1) T.f_is_letters T.fd_is_letters ["value"] (sp_is_letters K) := by
  refine T.F_is_letters.ok sc_is_letters (fun vs H Q E h => ?_) (fun A outer s H vs Q E hr h => ?_)
  · obtain ⟨x, rfl, _⟩ := h
    rfl
  · obtain ⟨v, rfl, sv, good, q⟩ := h
    refine ⟨_, (pss_cons (ps_if (PW.pt (pw_or (pt_not (pt_val (pe_callB call_isi (by rfl) T.z_isinstance (by decide +kernel) (pa_cons (pv 0) (pa_cons (pe_bltn (v := .ty "str") (by rfl) T.z_str (by decide +kernel) rfl) pa_nil))))) (pw_or1 (pt_not (pt_chain op_le op_le pe_int (pe_callB call_len_str (by rfl) T.z_len PySem.boot_len (pa_cons (pv 0) pa_nil)) (pe_glob (v := .int 4) (by rfl) T.c_MAX_LETTERS ⟨_, rfl⟩)))))) (pss_one (ps_ret pe_bl)) pss_nil)
      (pss_cons (ps_if (pt_not (pt_val (GQ.pe_allG hr T.z_all T.c_SMALL_LETTERS T.B_is_letters T.m_is_letters rfl (GQ.genB_by (sc := defScope s_is_letters) (by decide +kernel)) (pv 0)))) (pss_one (ps_ret pe_bl)) pss_nil)
      (pss_one (ps_ret (pe_cmpR (op_eqD hr.units) (pe_callTy (cr_listT rfl) (by rfl) T.z_list (by decide +kernel) (pa_cons (pv 0) pa_nil)) (pe_callB (SetQ.cr_sortedTx rfl) (by rfl) T.z_sorted (by decide +kernel) (pa_cons (pe_callTy (SetQ.cr_setT2 rfl) (by rfl) T.z_set (by decide +kernel) (pa_cons (pv 0) pa_nil)) pa_nil)) (nomark _)))))), ?_⟩
    obtain ⟨ty, hty, kt⟩ := isi_str (K := K) sv
    refine ⟨_, rfl, _, _, _, _, _, rfl, .ty _, hty, kt, _, rfl, ?_⟩
    cases hs : isStr v with
    | false =>
      refine iteC rfl ?_
      refine iteC rfl ?_
      refine q false _ ⟨fun h => (by cases h), fun h => ?_⟩ (.refl H)
      obtain ⟨x, rfl, _⟩ := h
      cases hs
    | true =>
    obtain ⟨x, rfl⟩ := isStr_of hs
    have sx := sv.text
    replace q : ∀ (b : Bool) (H' : Hp), (b = true ↔ IsAlpha x) → Same H H' → Q (.bl b) H' := fun b H' h s => q b H' (h.trans ⟨fun a => ⟨x, rfl, a⟩, fun ⟨y, e, a⟩ => by cases e; exact a⟩) s
    refine iteF ?_
    refine ⟨_, rfl, x, rfl, small_text sx, _, _, rfl, rfl, _, rfl, ite2 (fun g1 => ?_) (fun g1 => ?_)⟩
    · refine ⟨_, _, rfl, rfl, _, rfl, ?_⟩
      have g1 : 1 ≤ x.length := by
        have := of_decide_eq_true g1
        omega
      by_cases g2 : x.length ≤ 4
      · refine iteN (by rw [decide_eq_true (by omega)]; rfl) ?_
        refine ⟨_, rfl, x, rfl, good, fun H1 s1 => ?_⟩
        by_cases g3 : (x.cps.toList.all fun c => decide (c ∈ (Str.ofString "abcdefghijklmnopqrstuvwxyz").cps.toList)) = true
        · refine ⟨_, rfl, iteN (by rw [g3]; rfl) ?_⟩
          have low : ∀ c ∈ cs x, 97 ≤ c ∧ c ≤ 122 := fun c hc => abc_low c (of_decide_eq_true (List.all_eq_true.mp g3 c hc))
          refine ⟨_, rfl, x, rfl, small_text sx, fun p1 n1 => ?_⟩
          have asc : x.cps.all (· < 128) = true := by
            rw [← Array.all_toList]
            refine List.all_eq_true.mpr fun c hc => decide_eq_true ?_
            have := low c hc
            omega
          have ln : x.cps.toList.length = x.length := cs_len x
          refine ⟨_, rfl, x, rfl, asc, by rw [ln]; omega, fun p2 l n2 nd mem le => ?_⟩
          obtain ⟨ns, rfl, nn, mm⟩ := sing_list nd mem
          refine ⟨p2, _, rfl, upd_same, nd, ?_, fun ws p3 srt perm n3 => ?_⟩
          · rw [ln] at le
            omega
          · obtain ⟨ds, ew, pm, le⟩ := SetQ.sorted_sing srt perm
            have e3 : ws.map V.str = ds.map signV := by
              rw [ew, List.map_map]
              rfl
            have m3 : ∀ d ∈ ds, d < 128 := fun d hd => by
              have := low d ((mm d).mp (pm.mem_iff.mp hd))
              omega
            refine ⟨_, _, dp_signs (SqL.of (same_new n3 _ _ (same_new n2 _ _ upd_same))), dp_signs (SqL.of (by rw [upd_same, e3])), shaped_signs fun c hc => ?_, shaped_signs m3, q _ _ ?_ (((s1.trans (same_new n1)).trans (same_new n2)).trans (same_new n3))⟩
            · have := low c hc
              omega
            · show PyData.eqvAll _ _ = true ↔ _
              rw [eqv_signs, decide_eq_true_iff]
              constructor
              · intro e
                have e' : cs x = ds := e
                have asc : (cs x).Pairwise (· < ·) := by
                  rw [e']
                  exact (List.Pairwise.and le (pm.nodup_iff.mpr nn)).imp fun h => Nat.lt_of_le_of_ne h.1 h.2
                exact ⟨asc, low, g1, g2⟩
              · intro h
                have nx : (cs x).Nodup := h.asc.imp fun h => Nat.ne_of_lt h
                exact SetQ.le_unique ((List.perm_ext_iff_of_nodup nx (pm.nodup_iff.mpr nn)).mpr fun c => ((mm c).symm.trans pm.mem_iff.symm)) (h.asc.imp fun h => Nat.le_of_lt h) le
        · refine ⟨_, rfl, iteC (by rw [Bool.eq_false_iff.mpr g3]; rfl) ?_⟩
          refine q false _ ⟨fun h => (by cases h), fun h => absurd (List.all_eq_true.mpr fun c hc => decide_eq_true ?_) g3⟩ s1
          have := h.low c hc
          show c ∈ cs abc
          rw [cs_abc, List.mem_range'_1]
          omega
      · refine iteC (by rw [decide_eq_false (by omega)]; rfl) ?_
        exact q false _ ⟨fun h => (by cases h), fun h => absurd h.len4 g2⟩ (.refl H)
    · refine ⟨_, rfl, iteC rfl ?_⟩
      refine q false _ ⟨fun h => (by cases h), fun h => absurd (decide_eq_true ?_) g1⟩ (.refl H)
      have := h.len1
      omega

def sp_check_letters [Tabl] (C : Addr) (_ : PySem.W.Frag) : Sp := fun vs H Q E => ∃ v : V, vs = [v] ∧ Shal H v ∧ Good H ∧ (AlphaV v → ∀ H' : Hp, Same H H' → Q v H') ∧ (¬ AlphaV v → Raised H C v E)
theorem ok_check_letters (T : Txt K mg base) : FnOk P w K mg base (L2.CX P w) (3 + 1) T.f_check_letters T.fd_check_letters ["letters"] (sp_check_letters T.C_BadLetters K) := by
  refine T.F_check_letters.okX sc_check_letters (fun vs H Q E h => ?_) (fun cdv A outer s H vs Q E hr h => ?_)
  · obtain ⟨z, rfl, _⟩ := h
    rfl
  · obtain ⟨v, rfl, sv, good, q, qe⟩ := h
    refine ⟨_, (pss_cons (ps_if (pt_not (pt_val (pe_call (ok_is_letters T) (hr.mono (by first | decide | exact Nat.le_refl _)) (by rfl) T.g_is_letters T.F_is_letters.kp T.b_is_letters .nil pass0 (pa_cons (pv 0) pa_nil)))) (pss_one (ps_raise rfl (takes_of rfl rfl rfl rfl) (pmk_err1 T.E_BadLetters T.iI_BadLetters T.tI_BadLetters T.no_BadLetters_value (ok_init1 (k := 0) (p4 := ⟨0, 0, 0, 0⟩) T.FI_BadLetters sci_BadLetters (by decide) rfl) (hr.mono (by first | decide | exact Nat.le_refl _)) T.bI_BadLetters pass0 (pa_cons (pv 0) pa_nil)))) pss_nil)
      (pss_one (ps_ret (pv 0)))), ?_⟩
    refine ⟨_, rfl, v, rfl, sv, good, fun b H1 hb s1 => ⟨_, rfl, ?_⟩⟩
    cases b with
    | true => exact iteF ⟨_, rfl, q (hb.mp rfl) H1 s1⟩
    | false => exact iteC rfl ⟨_, rfl, _, rfl, fun d nd => qe (fun h => by cases hb.mpr h) d H1 _ s1 nd rfl⟩

def sp_is_whole (_ : PySem.W.Frag) : Sp := fun vs H Q _ => ∃ v : V, vs = [v] ∧ Shal H v ∧ Q (.bl (isInt v)) H
theorem ok_is_whole (T : Txt K mg base) : FnOk P w K mg base CX0 (0 + 1) T.f_is_whole T.fd_is_whole ["value"] (sp_is_whole K) := by
  refine T.F_is_whole.ok sc_is_whole (fun vs H Q E h => ?_) (fun cdv A outer s H vs Q E hr h => ?_)
  · obtain ⟨i, rfl, _⟩ := h
    rfl
  · obtain ⟨v, rfl, sv, q⟩ := h
    refine ⟨_, (pss_one (ps_ret (pe_and (pe_callB call_isi (by rfl) T.z_isinstance (by decide +kernel) (pa_cons (pv 0) (pa_cons (pe_bltn (v := .ty "int") (by rfl) T.z_int (by decide +kernel) rfl) pa_nil))) (pe_one (pe_not (pe_callB call_isi (by rfl) T.z_isinstance (by decide +kernel) (pa_cons (pv 0) (pa_cons (pe_bltn (v := .ty "bool") (by rfl) T.z_bool (by decide +kernel) rfl) pa_nil)))))))), ?_⟩
    obtain ⟨t1, h1, k1⟩ := isi_int (K := K) sv
    obtain ⟨t2, h2, k2⟩ := isi_bool (K := K) sv
    refine ⟨_, rfl, _, _, _, _, _, rfl, .ty _, h1, k1, _, rfl, ?_⟩
    cases e : (isInt v || isBl v) with
    | false =>
      refine iteF ?_
      have : isInt v = false := by
        cases hv : isInt v <;> rw [hv] at e <;> first | rfl | cases e
      rw [this] at q
      exact q
    | true =>
      refine iteT ⟨_, rfl, _, _, _, _, _, rfl, .ty _, h2, k2, _, rfl, ?_⟩
      have : (!isBl v) = isInt v := by
        cases v <;> first | rfl | cases e
      rw [this]
      exact q

def sp_in_range (_ : PySem.W.Frag) : Sp := fun vs H Q _ => ∃ (v : V) (lo hi : Int), vs = [v, .int lo, .int hi] ∧ Shal H v ∧ Q (.bl (inR v lo hi)) H
theorem ok_in_range (T : Txt K mg base) : FnOk P w K mg base CX0 (1 + 1) T.f_in_range T.fd_in_range ["value", "low", "high"] (sp_in_range K) := by
  refine T.F_in_range.ok sc_in_range (fun vs H Q E h => ?_) (fun cdv A outer s H vs Q E hr h => ?_)
  · obtain ⟨v, lo, hi, rfl, _⟩ := h
    rfl
  · obtain ⟨v, lo, hi, rfl, sv, q⟩ := h
    refine ⟨_, (pss_one (ps_ret (pe_and (pe_call (ok_is_whole T) (hr.mono (by first | decide | exact Nat.le_refl _)) (by rfl) T.g_is_whole T.F_is_whole.kp T.b_is_whole .nil pass0 (pa_cons (pv 0) pa_nil)) (pe_one (pe_chain op_le op_le (pv 1) (pv 0) (pv 2)))))), ?_⟩
    refine ⟨_, rfl, v, rfl, sv, _, rfl, ?_⟩
    cases hv : isInt v with
    | false =>
      refine iteF ?_
      have : inR v lo hi = false := by
        cases v <;> first | rfl | cases hv
      rw [this] at q
      exact q
    | true =>
      obtain ⟨i, rfl⟩ := isInt_of hv
      refine iteT ?_
      refine ⟨_, rfl, _, rfl, _, _, rfl, rfl, _, rfl, ?_⟩
      by_cases h : lo ≤ i
      · rw [decide_eq_true h]
        refine iteT ⟨_, rfl, _, _, rfl, rfl, ?_⟩
        have : inR (.int i) lo hi = decide (i ≤ hi) := by
          show (decide (lo ≤ i) && decide (i ≤ hi)) = _
          rw [decide_eq_true h, Bool.true_and]
        rw [this] at q
        exact q
      · rw [decide_eq_false h]
        refine iteF ?_
        have : inR (.int i) lo hi = false := by
          show (decide (lo ≤ i) && decide (i ≤ hi)) = _
          rw [decide_eq_false h, Bool.false_and]
        rw [this] at q
        exact q

def sp_check_number [Tabl] (C : Addr) (_ : PySem.W.Frag) : Sp := fun vs H Q E => ∃ (v : V) (lo hi : Int), vs = [v, .int lo, .int hi] ∧ Shal H v ∧ (inR v lo hi = true → Q v H) ∧ (inR v lo hi = false → Raised H C v E)
theorem ok_check_number (T : Txt K mg base) : FnOk P w K mg base (L2.CX P w) (4 + 1) T.f_check_number T.fd_check_number ["value", "low", "high"] (sp_check_number T.C_BadNumber K) := by
  refine T.F_check_number.okX sc_check_number (fun vs H Q E h => ?_) (fun cdv A outer s H vs Q E hr h => ?_)
  · obtain ⟨v, lo, hi, rfl, _⟩ := h
    rfl
  · obtain ⟨v, lo, hi, rfl, sv, q, qe⟩ := h
    refine ⟨_, (pss_cons (ps_if (pt_not (pt_val (pe_call (ok_in_range T) (hr.mono (by first | decide | exact Nat.le_refl _)) (by rfl) T.g_in_range T.F_in_range.kp T.b_in_range .nil pass0 (pa_cons (pv 0) (pa_cons (pv 1) (pa_cons (pv 2) pa_nil)))))) (pss_one (ps_raise rfl (takes_of rfl rfl rfl rfl) (pmk_err1 T.E_BadNumber T.iI_BadNumber T.tI_BadNumber T.no_BadNumber_value (ok_init1 (k := 0) (p4 := ⟨0, 0, 0, 0⟩) T.FI_BadNumber sci_BadNumber (by decide) rfl) (hr.mono (by first | decide | exact Nat.le_refl _)) T.bI_BadNumber pass0 (pa_cons (pv 0) pa_nil)))) pss_nil)
      (pss_one (ps_ret (pv 0)))), ?_⟩
    refine ⟨_, rfl, _, rfl, _, rfl, v, lo, hi, rfl, sv, _, rfl, ?_⟩
    cases e : inR v lo hi with
    | true => exact iteF ⟨_, rfl, q e⟩
    | false => exact iteC rfl ⟨_, rfl, _, rfl, fun d nd => qe e d H _ (.refl H) nd rfl⟩

def sp_word_key (_ : PySem.W.Frag) : Sp := fun vs H Q _ => ∃ x : Str, vs = [.str x] ∧ x.length ≤ 1000000 ∧ ∀ (p : Addr) (H' : Hp), Same H H' → H p = none → H' p = some (.tup [.int (x.length : Nat), .str x]) → Q (.ref p) H'
theorem ok_word_key (T : Txt K mg base) : FnOk P w K mg base CX0 (0 + 1) T.f_word_key T.fd_word_key ["word"] (sp_word_key K) := by
  refine T.F_word_key.ok sc_word_key (fun vs H Q E h => ?_) (fun cdv A outer s H vs Q E hr h => ?_)
  · obtain ⟨x, rfl, _⟩ := h
    rfl
  · obtain ⟨x, rfl, sx, q⟩ := h
    refine ⟨_, (pss_one (ps_ret (pe_tup (pa_cons (pe_callB call_len_str (by rfl) T.z_len PySem.boot_len (pa_cons (pv 0) pa_nil)) (pa_cons (pv 0) pa_nil))))), ?_⟩
    exact ⟨_, rfl, x, rfl, small_text sx, _, rfl, by show 2 ≤ sizeLine; decide, fun p np => q p _ (same_new np) np upd_same⟩

def sp_arc_key (_ : PySem.W.Frag) : Sp := fun vs H Q _ => ∃ (t : Addr) (i : Int) (l x : Str) (j : Int), vs = [.ref t] ∧ H t = some (.tup [.int i, .str l, .str x, .int j]) ∧ x.length ≤ 1000000 ∧
  ∀ (p p' : Addr) (H' : Hp), Same H H' → H p = none → H' p = some (.tup [.int i, .str l, .ref p', .int j]) → H' p' = some (.tup [.int (x.length : Nat), .str x]) → Q (.ref p) H'
theorem ok_arc_key (T : Txt K mg base) : FnOk P w K mg base CX0 (1 + 1) T.f_arc_key T.fd_arc_key ["arc"] (sp_arc_key K) := by
  refine T.F_arc_key.ok sc_arc_key (fun vs H Q E h => ?_) (fun cdv A outer s H vs Q E hr h => ?_)
  · obtain ⟨t, i, l, x, j, rfl, _⟩ := h
    rfl
  · obtain ⟨t, i, l, x, j, rfl, ht, sx, q⟩ := h
    refine ⟨_, (pss_cons (ps_asg (pv 0) (pg_tup (by rfl) (pgs_cons (pg_name (i := 1) sc_arc_key.nd rfl (.inl rfl)) (pgs_cons (pg_name (i := 2) sc_arc_key.nd rfl (.inl rfl)) (pgs_cons (pg_name (i := 3) sc_arc_key.nd rfl (.inl rfl)) (pgs_cons (pg_name (i := 4) sc_arc_key.nd rfl (.inl rfl)) pgs_nil))))))
      (pss_one (ps_ret (pe_tup (pa_cons (pv 1) (pa_cons (pv 2) (pa_cons (pe_call (ok_word_key T) (hr.mono (by first | decide | exact Nat.le_refl _)) (by rfl) T.g_word_key T.F_word_key.kp T.b_word_key .nil pass0 (pa_cons (pv 3) pa_nil)) (pa_cons (pv 4) pa_nil)))))))), ?_⟩
    refine ⟨_, rfl, t, _, rfl, .inl (.inl ht), rfl, _, _, rfl, _, _, rfl, _, _, rfl, _, _, rfl, rfl, ?_⟩
    refine ⟨_, rfl, _, rfl, _, rfl, x, rfl, sx, fun p1 H1 s1 n1 h1 => ⟨_, rfl, by show 4 ≤ sizeLine; decide, fun p np => ?_⟩⟩
    have k := same_new (o := .tup [.int i, .str l, .ref p1, .int j]) np
    exact q p p1 _ (s1.trans k) (s1.free np) upd_same (k _ _ h1)
theorem kd_arc_key (T : Txt K mg base) : FnOk P w K mg base CX0 (1 + 1) T.f_arc_key T.fd_arc_key ["arc"] (SkF.spKeyD K relA) := (ok_arc_key T).imp fun vs H Q E ⟨v, d, e, ⟨t, i, l, x, j, ex, ht, le, ed⟩, q⟩ => by
  subst ex
  subst ed
  exact ⟨t, i, l, x, j, e, ht, le, fun p p' H' s _ h h' => q _ H' s (dp_akey h h')⟩

def sp_check_many [Tabl] (cE cL : Addr) (K : PySem.W.Frag) : Sp := fun vs H Q E => ∃ (pl : Str) (v : V), vs = [.str pl, v] ∧ ((∃ (p : Addr) (xs : List V), v = .ref p ∧ Own.RowAt K H p xs ∧ xs.length ≤ 400 ∧ ∀ H' : Hp, Same H H' → Q v H') ∨
  (plainV v = true ∧ RaisedF H cE (Flt.shape.fs pl) E) ∨ (∃ (p : Addr) (xs : List V), v = .ref p ∧ Own.RowAt K H p xs ∧ 400 < xs.length ∧ xs.length ≤ 1000000 ∧ RaisedF H cL (Flt.large.fs pl) E))
theorem ok_check_many (T : Txt K mg base) : FnOk P w K mg base (L2.CX P w) (2 + 1) T.f_check_many T.fd_check_many ["place", "entries"] (sp_check_many T.C_BadEntry T.C_TooLarge K) := by
  refine T.F_check_many.okX sc_check_many (fun vs H Q E h => ?_) (fun cdv A outer s H vs Q E hr h => ?_)
  · obtain ⟨pl, v, rfl, _⟩ := h
    rfl
  · obtain ⟨pl, v, rfl, h⟩ := h
    refine ⟨_, (pss_cons (ps_if (pt_not (pt_val (pe_callB call_isiT (by rfl) T.z_isinstance (by decide +kernel) (pa_cons (pv 1) (pa_cons (pe_tup (pa_cons (pe_bltn (v := .ty "list") (by rfl) T.z_list (by decide +kernel) rfl) (pa_cons (pe_bltn (v := .ty "tuple") (by rfl) T.z_tuple (by decide +kernel) rfl) pa_nil))) pa_nil))))) (pss_one (ps_raise rfl (takes_of rfl rfl rfl rfl) (pmk_err2 T.E_BadEntry T.iI_BadEntry T.tI_BadEntry T.no_BadEntry_place T.no_BadEntry_index (ok_init2 (k := 0) T.FI_BadEntry sci_BadEntry rfl) (hr.mono (by first | decide | exact Nat.le_refl _)) T.bI_BadEntry pass0 (pa_cons (pv 0) (pa_cons pe_non pa_nil))))) pss_nil)
      (pss_cons (ps_if (pt_cmpR op_gt (pe_callB call_len_seq (by rfl) T.z_len PySem.boot_len (pa_cons (pv 1) pa_nil)) (pe_glob (v := .int 400) (by rfl) T.c_MAX_ENTRIES ⟨_, rfl⟩) (nomark _)) (pss_one (ps_raise rfl (takes_of rfl rfl rfl rfl) (pmk_err2 T.E_TooLarge T.iI_TooLarge T.tI_TooLarge T.no_TooLarge_what T.no_TooLarge_limit (ok_init2 (k := 0) T.FI_TooLarge sci_TooLarge rfl) (hr.mono (by first | decide | exact Nat.le_refl _)) T.bI_TooLarge pass0 (pa_cons (pv 0) (pa_cons (pe_glob (v := .int 400) (by rfl) T.c_MAX_ENTRIES ⟨_, rfl⟩) pa_nil))))) pss_nil)
      (pss_one (ps_ret (pv 1))))), ?_⟩
    refine ⟨_, rfl, by show 2 ≤ sizeLine; decide, fun tp np => ?_⟩
    have k := same_new (o := .tup [.ty "list", .ty "tuple"]) np
    have hT : (upd H tp (.tup [.ty "list", .ty "tuple"])) tp = some (.tup [.ty "list", .ty "tuple"]) := upd_same
    generalize upd H tp (.tup [.ty "list", .ty "tuple"]) = H1 at k hT ⊢
    have row : ∀ (p : Addr) (xs : List V), Own.RowAt K H p xs → ∃ (t : Value), TyX K H1 (.ref p) t ∧ PySem.W.kitAny K t [.type "list", .type "tuple"] = some true := fun p xs hp => by
      rcases hp with h | h | ⟨_, o, n, h, c, _⟩
      · exact ⟨.type "list", .base (.lst (k _ _ h)), any_1st (kit_ty (by decide +kernel))⟩
      · exact ⟨.type "tuple", .base (.tup (k _ _ h)), any_2nd (kit_ty (by decide +kernel)) (kit_ty (by decide +kernel))⟩
      · exact ⟨.type "tuple", .kTuple h c, any_2nd (kit_ty (by decide +kernel)) (kit_ty (by decide +kernel))⟩
    have no : ∀ {t : Value} {a b : Value}, PySem.W.kitOne K t a = some false → PySem.W.kitOne K t b = some false → PySem.W.kitAny K t [a, b] = some false := fun {t a b} h k => kitAny_cons h (fun _ => kitAny_cons k (fun _ => rfl) (fun z => z)) (fun z => by cases z)
    rcases h with ⟨p, xs, rfl, hp, le, q⟩ | ⟨pl', qe⟩ | ⟨p, xs, rfl, hp, lt, le, qe⟩
    · obtain ⟨t, t1, t2⟩ := row p xs hp
      refine ⟨_, tp, _, t, _, true, rfl, hT, .cons (.ty _) (.cons (.ty _) .nil), t1, t2, _, rfl, iteN rfl ?_⟩
      exact ⟨_, rfl, p, xs, rfl, (hp.same k).sq, _, _, rfl, rfl, _, rfl, iteN (decide_eq_false (by omega)) ⟨_, rfl, q _ k⟩⟩
    · have fin : ∀ d, H1 d = none → E (.ref T.C_BadEntry) (some d) (upd H1 d (.xd [("index", .non), ("place", .str pl)])) := fun d nd => qe d H1 _ k nd rfl
      cases v with
      | non => exact ⟨_, tp, _, _, _, false, rfl, hT, .cons (.ty _) (.cons (.ty _) .nil), .base .non, no (kit_ty (by decide +kernel)) (kit_ty (by decide +kernel)), _, rfl, iteC rfl ⟨_, rfl, _, _, rfl, fin⟩⟩
      | bl b => exact ⟨_, tp, _, _, _, false, rfl, hT, .cons (.ty _) (.cons (.ty _) .nil), .base (.bl b), no (kit_ty (by decide +kernel)) (kit_ty (by decide +kernel)), _, rfl, iteC rfl ⟨_, rfl, _, _, rfl, fin⟩⟩
      | int b => exact ⟨_, tp, _, _, _, false, rfl, hT, .cons (.ty _) (.cons (.ty _) .nil), .base (.int b), no (kit_ty (by decide +kernel)) (kit_ty (by decide +kernel)), _, rfl, iteC rfl ⟨_, rfl, _, _, rfl, fin⟩⟩
      | str b => exact ⟨_, tp, _, _, _, false, rfl, hT, .cons (.ty _) (.cons (.ty _) .nil), .base (.str b), no (kit_ty (by decide +kernel)) (kit_ty (by decide +kernel)), _, rfl, iteC rfl ⟨_, rfl, _, _, rfl, fin⟩⟩
      | byt b => cases pl'
      | flt b => cases pl'
      | ref b => cases pl'
      | ty b => cases pl'
    · obtain ⟨t, t1, t2⟩ := row p xs hp
      refine ⟨_, tp, _, t, _, true, rfl, hT, .cons (.ty _) (.cons (.ty _) .nil), t1, t2, _, rfl, iteN rfl ?_⟩
      exact ⟨_, rfl, p, xs, rfl, (hp.same k).sq, _, _, rfl, rfl, _, rfl, iteC (decide_eq_true (by omega)) ⟨_, rfl, _, _, rfl, fun d nd => qe d H1 _ k nd rfl⟩⟩

def sp_is_letter (_ : PySem.W.Frag) : Sp := fun vs H Q _ => ∃ (v : V) (z : Str), vs = [.str z, v] ∧ z.length ≤ 1000000 ∧ Shal H v ∧ ∀ b : Bool, (b = true ↔ ∃ x, v = .str x ∧ x.length = 1 ∧ Over z x) → Q (.bl b) H
theorem ok_is_letter (T : Txt K mg base) : FnOk P w K mg base CX0 (0 + 1) T.f_is_letter T.fd_is_letter ["letters", "value"] (sp_is_letter K) := by
  refine T.F_is_letter.ok sc_is_letter (fun vs H Q E h => ?_) (fun cdv A outer s H vs Q E hr h => ?_)
  · obtain ⟨v, z, rfl, _⟩ := h
    rfl
  · obtain ⟨v, z, rfl, sz, sv, q⟩ := h
    refine ⟨_, (pss_one (ps_ret (pe_and (pe_callB call_isi (by rfl) T.z_isinstance (by decide +kernel) (pa_cons (pv 1) (pa_cons (pe_bltn (v := .ty "str") (by rfl) T.z_str (by decide +kernel) rfl) pa_nil))) (pe_and (pe_cmpR op_eq (pe_callB call_len_str (by rfl) T.z_len PySem.boot_len (pa_cons (pv 1) pa_nil)) pe_int (nomark _)) (pe_one (pe_cmpR op_in_sign (pv 1) (pv 0) rfl)))))), ?_⟩
    obtain ⟨ty, hty, kt⟩ := isi_str (K := K) sv
    refine ⟨_, rfl, _, _, _, _, _, rfl, .ty _, hty, kt, _, rfl, ?_⟩
    cases hs : isStr v with
    | false =>
      refine iteF (q false ⟨fun h => (by cases h), fun ⟨x, e, _⟩ => ?_⟩)
      rw [e] at hs
      cases hs
    | true =>
    obtain ⟨x, rfl⟩ := isStr_of hs
    refine iteT ⟨_, rfl, x, rfl, small_text sv.text, rfl, _, rfl, ite2 (fun g => ?_) (fun g => ?_)⟩
    · have g1 : x.length = 1 := by
        have := of_decide_eq_true g
        injection this with e
        omega
      obtain ⟨c, rfl⟩ := sign_of g1
      refine ⟨_, rfl, _, rfl, c, z, rfl, rfl, q _ ?_⟩
      constructor
      · intro h
        exact ⟨_, rfl, g1, fun d hd => by rw [show d = c from List.mem_singleton.mp hd]; exact of_decide_eq_true h⟩
      · rintro ⟨y, e, _, o⟩
        cases e
        exact decide_eq_true (o c (List.mem_singleton.mpr rfl))
    · refine q false ⟨fun h => (by cases h), fun ⟨y, e, l, _⟩ => (g (decide_eq_true ?_)).elim⟩
      cases e
      rw [l]
      rfl

def sp_is_word (_ : PySem.W.Frag) : Sp := fun vs H Q _ => ∃ L v : V, vs = [L, v] ∧ Shal H L ∧ Shal H v ∧ Good H ∧ ∀ (b : Bool) (H' : Hp), (b = true ↔ ∃ z x, L = .str z ∧ v = .str x ∧ IsAlpha z ∧ Over z x) → Same H H' → Q (.bl b) H'
theorem ok_is_word (T : Txt K mg base) : FnOk P w K mg base CX0 (1 + 1) T.f_is_word T.fd_is_word ["letters", "value"] (sp_is_word K) := by
  refine T.F_is_word.ok sc_is_word (fun vs H Q E h => ?_) (fun A outer s H vs Q E hr h => ?_)
  · obtain ⟨z, x, rfl, _⟩ := h
    rfl
  · obtain ⟨L, v, rfl, sL, sv, good, q⟩ := h
    refine ⟨_, (pss_cons (ps_if (PW.pt (pw_or (pt_not (pt_val (pe_call (ok_is_letters T) (hr.mono (by first | decide | exact Nat.le_refl _)) (by rfl) T.g_is_letters T.F_is_letters.kp T.b_is_letters .nil pass0 (pa_cons (pv 0) pa_nil)))) (pw_or1 (pt_not (pt_val (pe_callB call_isi (by rfl) T.z_isinstance (by decide +kernel) (pa_cons (pv 1) (pa_cons (pe_bltn (v := .ty "str") (by rfl) T.z_str (by decide +kernel) rfl) pa_nil)))))))) (pss_one (ps_ret pe_bl)) pss_nil)
      (pss_one (ps_ret (GQ.pe_allV hr T.z_all (i := 0) rfl T.B_is_word T.m_is_word rfl (GQ.genB_by (sc := defScope s_is_word) (by decide +kernel)) (pv 1))))), ?_⟩
    refine ⟨_, rfl, L, rfl, sL, good, fun b H1 hb s1 => ?_⟩
    cases b with
    | false =>
      refine ⟨_, rfl, iteC rfl (iteC rfl ?_)⟩
      refine q false _ ⟨fun h => (by cases h), fun ⟨z, x, e1, e2, al, _⟩ => ?_⟩ s1
      have := hb.mpr ⟨z, e1, al⟩
      cases this
    | true =>
      obtain ⟨z, rfl, al⟩ := hb.mp rfl
      refine ⟨_, rfl, iteF ?_⟩
      obtain ⟨ty, hty, kt⟩ := isi_str (K := K) (sv.same s1)
      refine ⟨_, rfl, _, _, _, _, _, rfl, .ty _, hty, kt, _, rfl, ?_⟩
      cases hs : isStr v with
      | false =>
        refine iteC rfl ?_
        refine q false _ ⟨fun h => (by cases h), fun ⟨z, x, e1, e2, al, _⟩ => ?_⟩ s1
        rw [e2] at hs
        cases hs
      | true =>
      obtain ⟨x, rfl⟩ := isStr_of hs
      refine iteF ?_
      refine ⟨_, rfl, x, z, rfl, rfl, s1.good good, fun H2 s2 => ?_⟩
      refine q _ _ ?_ (s1.trans s2)
      rw [List.all_eq_true]
      constructor
      · exact fun h => ⟨z, x, rfl, rfl, al, fun c hc => of_decide_eq_true (h c hc)⟩
      · rintro ⟨z', x', e1, e2, _, h⟩ c hc
        cases e1
        cases e2
        exact decide_eq_true (h c hc)

def sp_is_word_up_to (_ : PySem.W.Frag) : Sp := fun vs H Q _ => ∃ (L v : V) (m : Int), vs = [L, v, .int m] ∧ Shal H L ∧ Shal H v ∧ Good H ∧ ∀ (b : Bool) (H' : Hp), (b = true ↔ ∃ z x, L = .str z ∧ v = .str x ∧ IsAlpha z ∧ Over z x ∧ (x.length : Int) ≤ m) → Same H H' → Q (.bl b) H'
theorem ok_is_word_up_to (T : Txt K mg base) : FnOk P w K mg base CX0 (2 + 1) T.f_is_word_up_to T.fd_is_word_up_to ["letters", "value", "most"] (sp_is_word_up_to K) := by
  refine T.F_is_word_up_to.ok sc_is_word_up_to (fun vs H Q E h => ?_) (fun cdv A outer s H vs Q E hr h => ?_)
  · obtain ⟨z, x, m, rfl, _⟩ := h
    rfl
  · obtain ⟨L, v, m, rfl, sL, sv, good, q⟩ := h
    refine ⟨_, (pss_one (ps_ret (pe_and (pe_callB call_isi (by rfl) T.z_isinstance (by decide +kernel) (pa_cons (pv 1) (pa_cons (pe_bltn (v := .ty "str") (by rfl) T.z_str (by decide +kernel) rfl) pa_nil))) (pe_and (pe_cmpR op_le (pe_callB call_len_str (by rfl) T.z_len PySem.boot_len (pa_cons (pv 1) pa_nil)) (pv 2) (nomark _)) (pe_one (pe_call (ok_is_word T) (hr.mono (by first | decide | exact Nat.le_refl _)) (by rfl) T.g_is_word T.F_is_word.kp T.b_is_word .nil pass0 (pa_cons (pv 0) (pa_cons (pv 1) pa_nil)))))))), ?_⟩
    obtain ⟨ty, hty, kt⟩ := isi_str (K := K) sv
    refine ⟨_, rfl, _, _, _, _, _, rfl, .ty _, hty, kt, _, rfl, ?_⟩
    cases hs : isStr v with
    | false =>
      refine iteF (q false _ ⟨fun h => (by cases h), fun ⟨z, x, e1, e2, _⟩ => ?_⟩ (.refl H))
      rw [e2] at hs
      cases hs
    | true =>
    obtain ⟨x, rfl⟩ := isStr_of hs
    refine iteT ?_
    refine ⟨_, rfl, x, rfl, small_text sv.text, _, rfl, _, _, rfl, rfl, _, rfl, ite2 (fun g => ?_) (fun g => ?_)⟩
    · refine ⟨_, rfl, _, rfl, L, .str x, rfl, sL, sv, good, fun b H1 hb s1 => q b H1 ?_ s1⟩
      rw [hb]
      exact ⟨fun ⟨z, y, e1, e2, al, o⟩ => ⟨z, y, e1, e2, al, o, by cases e2; exact of_decide_eq_true g⟩, fun ⟨z, y, e1, e2, al, o, _⟩ => ⟨z, y, e1, e2, al, o⟩⟩
    · refine q _ _ ⟨fun h => (by simp at h), fun ⟨z, y, e1, e2, al, o, l⟩ => absurd (decide_eq_true ?_) g⟩ (.refl H)
      cases e2
      exact l

def sp_is_pair (_ : PySem.W.Frag) : Sp := fun vs H Q _ => ∃ (v : V) (z : Str) (n : Int), vs = [v, .str z, .int n] ∧ IsAlpha z ∧ Shal H v ∧ Inner H v ∧ Good H ∧ ∀ (b : Bool) (H' : Hp), (b = true ↔ PairV H z n v) → Same H H' → Q (.bl b) H'
theorem ok_is_pair (T : Txt K mg base) : FnOk P w K mg base CX0 (3 + 1) T.f_is_pair T.fd_is_pair ["value", "write", "size"] (sp_is_pair K) := by
  refine T.F_is_pair.ok sc_is_pair (fun vs H Q E h => ?_) (fun cdv A outer s H vs Q E hr h => ?_)
  · obtain ⟨v, z, n, rfl, _⟩ := h
    rfl
  · obtain ⟨v, z, n, rfl, al, sv, inn, good, q⟩ := h
    refine ⟨_, (pss_cons (ps_if (PW.pt (pw_or (pt_not (pt_val (pe_callB call_isi (by rfl) T.z_isinstance (by decide +kernel) (pa_cons (pv 0) (pa_cons (pe_bltn (v := .ty "tuple") (by rfl) T.z_tuple (by decide +kernel) rfl) pa_nil))))) (pw_or1 (pt_cmpR op_ne (pe_callB call_len_seq (by rfl) T.z_len PySem.boot_len (pa_cons (pv 0) pa_nil)) pe_int (nomark _))))) (pss_one (ps_ret pe_bl)) pss_nil)
      (pss_cons (ps_asg (pv 0) (pg_tup (by rfl) (pgs_cons (pg_name (i := 3) sc_is_pair.nd rfl (.inl rfl)) (pgs_cons (pg_name (i := 4) sc_is_pair.nd rfl (.inl rfl)) pgs_nil))))
      (pss_one (ps_ret (pe_and (pe_call (ok_in_range T) (hr.mono (by first | decide | exact Nat.le_refl _)) (by rfl) T.g_in_range T.F_in_range.kp T.b_in_range .nil pass0 (pa_cons (pv 3) (pa_cons pe_int (pa_cons (pe_op op_sub (pv 2) pe_int) pa_nil)))) (pe_one (pe_call (ok_is_word_up_to T) (hr.mono (by first | decide | exact Nat.le_refl _)) (by rfl) T.g_is_word_up_to T.F_is_word_up_to.kp T.b_is_word_up_to .nil pass0 (pa_cons (pv 1) (pa_cons (pv 4) (pa_cons (pe_glob (v := .int 400) (by rfl) T.c_MAX_WRITTEN ⟨_, rfl⟩) pa_nil)))))))))), ?_⟩
    obtain ⟨ty, b, hty, kt, hb⟩ := isi_tup (K := K) sv
    have no : ∀ {c : Bool} {H' : Hp}, c = false → (¬ PairV H z n v) → Same H H' → Q (.bl c) H' := fun e nn s => q _ _ ⟨fun h => (by rw [e] at h; cases h), fun h => (nn h).elim⟩ s
    refine ⟨_, rfl, _, _, _, _, _, rfl, .ty _, hty, kt, _, rfl, ?_⟩
    cases b with
    | false =>
      refine iteC rfl (iteC rfl (no rfl (fun ⟨t, i, x, e, ht, _⟩ => ?_) (.refl H)))
      have := hb.mpr ⟨t, _, e, ht⟩
      cases this
    | true =>
    obtain ⟨t, xs, rfl, ht⟩ := hb.mp rfl
    refine iteN rfl ⟨_, rfl, t, xs, rfl, .inr (.inl (.inl ht)), rfl, _, rfl, ?_⟩
    by_cases l2 : xs.length = 2
    case neg =>
      refine iteC (by rw [decide_eq_false (fun e => l2 (by injection e with e; omega))]; rfl) (no rfl (fun ⟨t', i, x, e, ht', _⟩ => l2 ?_) (.refl H))
      cases e
      rw [ht] at ht'
      cases ht'
      rfl
    refine iteN (by rw [decide_eq_true (by rw [l2]; rfl)]; rfl) ?_
    obtain ⟨s1, w1, rfl⟩ : ∃ a b, xs = [a, b] := by
      match xs, l2 with
      | [a, b], _ => exact ⟨a, b, rfl⟩
    have ss := inn t _ rfl ht s1 (by simp)
    have sw := inn t _ rfl ht w1 (by simp)
    refine ⟨_, rfl, t, _, rfl, .inl (.inl ht), rfl, _, _, rfl, _, _, rfl, rfl, ?_⟩
    refine ⟨_, rfl, _, rfl, _, _, rfl, rfl, s1, 0, n - 1, rfl, ss, _, rfl, ?_⟩
    cases e : inR s1 0 (n - 1) with
    | false =>
      refine iteF (no rfl (fun ⟨t', i, x, e1, ht', i0, i1, _⟩ => ?_) (.refl H))
      cases e1
      rw [ht] at ht'
      cases ht'
      have : inR (.int i) 0 (n - 1) = true := by
        show (decide (0 ≤ i) && decide (i ≤ n - 1)) = true
        rw [decide_eq_true i0, decide_eq_true i1]
        rfl
      rw [this] at e
      cases e
    | true =>
    obtain ⟨i, rfl, i0, i1⟩ : ∃ i, s1 = .int i ∧ 0 ≤ i ∧ i ≤ n - 1 := by
      cases s1 with
      | int i =>
        have e' : (decide (0 ≤ i) && decide (i ≤ n - 1)) = true := e
        exact ⟨i, rfl, of_decide_eq_true (Bool.and_eq_true _ _ ▸ e').1, of_decide_eq_true (Bool.and_eq_true _ _ ▸ e').2⟩
      | _ => cases e
    refine iteT ⟨_, rfl, _, rfl, .str z, w1, 400, rfl, shal_str (Nat.le_trans al.len4 (by decide)), sw, good, fun b H1 hb s1 => q b H1 ?_ s1⟩
    rw [hb]
    constructor
    · rintro ⟨z', x, e1, rfl, _, o, l⟩
      cases e1
      exact ⟨t, i, x, rfl, ht, i0, i1, o, l⟩
    · rintro ⟨t', i', x, e1, ht', _, _, o, l⟩
      cases e1
      rw [ht] at ht'
      cases ht'
      exact ⟨z, x, rfl, rfl, al, o, l⟩

def sp_is_arc (_ : PySem.W.Frag) : Sp := fun vs H Q _ => ∃ (v : V) (r z : Str) (n : Int), vs = [v, .str r, .str z, .int n] ∧ IsAlpha r ∧ IsAlpha z ∧ Shal H v ∧ Inner H v ∧ Good H ∧ ∀ (b : Bool) (H' : Hp), (b = true ↔ ArcV H r z n v) → Same H H' → Q (.bl b) H'
theorem ok_is_arc (T : Txt K mg base) : FnOk P w K mg base CX0 (4 + 1) T.f_is_arc T.fd_is_arc ["value", "read", "write", "size"] (sp_is_arc K) := by
  refine T.F_is_arc.ok sc_is_arc (fun vs H Q E h => ?_) (fun cdv A outer s H vs Q E hr h => ?_)
  · obtain ⟨v, r, z, n, rfl, _⟩ := h
    rfl
  · obtain ⟨v, r, z, n, rfl, ar, az, sv, inn, good, q⟩ := h
    refine ⟨_, (pss_cons (ps_if (PW.pt (pw_or (pt_not (pt_val (pe_callB call_isi (by rfl) T.z_isinstance (by decide +kernel) (pa_cons (pv 0) (pa_cons (pe_bltn (v := .ty "tuple") (by rfl) T.z_tuple (by decide +kernel) rfl) pa_nil))))) (pw_or1 (pt_cmpR op_ne (pe_callB call_len_seq (by rfl) T.z_len PySem.boot_len (pa_cons (pv 0) pa_nil)) pe_int (nomark _))))) (pss_one (ps_ret pe_bl)) pss_nil)
      (pss_cons (ps_asg (pv 0) (pg_tup (by rfl) (pgs_cons (pg_name (i := 4) sc_is_arc.nd rfl (.inl rfl)) (pgs_cons (pg_name (i := 5) sc_is_arc.nd rfl (.inl rfl)) (pgs_cons (pg_name (i := 6) sc_is_arc.nd rfl (.inl rfl)) (pgs_cons (pg_name (i := 7) sc_is_arc.nd rfl (.inl rfl)) pgs_nil))))))
      (pss_one (ps_ret (pe_and (pe_call (ok_is_letter T) (hr.mono (by first | decide | exact Nat.le_refl _)) (by rfl) T.g_is_letter T.F_is_letter.kp T.b_is_letter .nil pass0 (pa_cons (pv 1) (pa_cons (pv 5) pa_nil))) (pe_and (pe_call (ok_is_pair T) (hr.mono (by first | decide | exact Nat.le_refl _)) (by rfl) T.g_is_pair T.F_is_pair.kp T.b_is_pair .nil pass0 (pa_cons (pe_tup (pa_cons (pv 4) (pa_cons (pv 6) pa_nil))) (pa_cons (pv 2) (pa_cons (pv 3) pa_nil)))) (pe_one (pe_call (ok_in_range T) (hr.mono (by first | decide | exact Nat.le_refl _)) (by rfl) T.g_in_range T.F_in_range.kp T.b_in_range .nil pass0 (pa_cons (pv 7) (pa_cons pe_int (pa_cons (pe_op op_sub (pv 3) pe_int) pa_nil))))))))))), ?_⟩
    obtain ⟨ty, b, hty, kt, hb⟩ := isi_tup (K := K) sv
    have no : ∀ {c : Bool} {H' : Hp}, c = false → (¬ ArcV H r z n v) → Same H H' → Q (.bl c) H' := fun e nn s => q _ _ ⟨fun h => (by rw [e] at h; cases h), fun h => (nn h).elim⟩ s
    refine ⟨_, rfl, _, _, _, _, _, rfl, .ty _, hty, kt, _, rfl, ?_⟩
    cases b with
    | false =>
      refine iteC rfl (iteC rfl (no rfl (fun ⟨t, i, l, x, j, e, ht, _⟩ => ?_) (.refl H)))
      have := hb.mpr ⟨t, _, e, ht⟩
      cases this
    | true =>
    obtain ⟨t, xs, rfl, ht⟩ := hb.mp rfl
    refine iteN rfl ⟨_, rfl, t, xs, rfl, .inr (.inl (.inl ht)), rfl, _, rfl, ?_⟩
    by_cases l2 : xs.length = 4
    case neg =>
      refine iteC (by rw [decide_eq_false (fun e => l2 (by injection e with e; omega))]; rfl) (no rfl (fun ⟨t', i, l, x, j, e, ht', _⟩ => l2 ?_) (.refl H))
      cases e
      rw [ht] at ht'
      cases ht'
      rfl
    refine iteN (by rw [decide_eq_true (by rw [l2]; rfl)]; rfl) ?_
    obtain ⟨v1, v2, v3, v4, rfl⟩ : ∃ a b c d, xs = [a, b, c, d] := by
      match xs, l2 with
      | [a, b, c, d], _ => exact ⟨a, b, c, d, rfl⟩
    have s1 := inn t _ rfl ht v1 (by simp)
    have s2 := inn t _ rfl ht v2 (by simp)
    have s3 := inn t _ rfl ht v3 (by simp)
    have s4 := inn t _ rfl ht v4 (by simp)
    refine ⟨_, rfl, t, _, rfl, .inl (.inl ht), rfl, _, _, rfl, _, _, rfl, _, _, rfl, _, _, rfl, rfl, ?_⟩
    refine ⟨_, rfl, _, rfl, v2, r, rfl, Nat.le_trans ar.len4 (by decide), s2, fun b1 hb1 => ⟨_, rfl, ?_⟩⟩
    cases b1 with
    | false =>
      refine iteF (no rfl (fun ⟨t', i, l, x, j, e1, ht', _, _, l1, o1, _⟩ => ?_) (.refl H))
      cases e1
      rw [ht] at ht'
      cases ht'
      have := hb1.mpr ⟨l, rfl, l1, o1⟩
      cases this
    | true =>
    obtain ⟨l, rfl, l1, o1⟩ := hb1.mp rfl
    refine iteT ⟨_, rfl, _, rfl, by show 2 ≤ sizeLine; decide, fun p np => ?_⟩
    have kp := same_new (o := .tup [v1, v3]) np
    have hp : (upd H p (.tup [v1, v3])) p = some (.tup [v1, v3]) := upd_same
    generalize upd H p (.tup [v1, v3]) = H1 at kp hp ⊢
    refine ⟨_, rfl, _, rfl, .ref p, z, n, rfl, az, .inr (.inr (.inr (.inr ⟨p, _, rfl, .inr hp⟩))), fun t' xs e ht' y hy => ?_, kp.good good, fun b2 H2 hb2 k2 => ⟨_, rfl, ?_⟩⟩
    · cases e
      rw [hp] at ht'
      cases ht'
      rcases List.mem_cons.mp hy with rfl | hy
      · exact s1.same kp
      · rw [List.mem_singleton.mp hy]
        exact s3.same kp
    have sm : Same H H2 := kp.trans k2
    cases b2 with
    | false =>
      refine iteF (no rfl (fun ⟨t', i, l, x, j, e1, ht', i0, i1, _, _, o, le, _⟩ => ?_) sm)
      cases e1
      rw [ht] at ht'
      cases ht'
      have := hb2.mpr ⟨p, i, x, rfl, hp, i0, i1, o, le⟩
      cases this
    | true =>
    obtain ⟨p', i, x, e, hp', i0, i1, o, le⟩ := hb2.mp rfl
    cases e
    rw [hp] at hp'
    cases hp'
    refine iteT ⟨_, rfl, _, rfl, _, _, rfl, rfl, v4, 0, n - 1, rfl, s4.same sm, ?_⟩
    refine q _ _ ?_ sm
    constructor
    · intro e
      cases v4 with
      | int j =>
        have e' : (decide (0 ≤ j) && decide (j ≤ n - 1)) = true := e
        exact ⟨t, i, l, x, j, rfl, ht, i0, i1, l1, o1, o, le, of_decide_eq_true (Bool.and_eq_true _ _ ▸ e').1, of_decide_eq_true (Bool.and_eq_true _ _ ▸ e').2⟩
      | _ => cases e
    · rintro ⟨t', i', l', x', j, e1, ht', _, _, _, _, _, _, j0, j1⟩
      cases e1
      rw [ht] at ht'
      cases ht'
      show (decide (0 ≤ j) && decide (j ≤ n - 1)) = true
      rw [decide_eq_true j0, decide_eq_true j1]
      rfl

def sp_checked_arcs [Tabl] (cE cL : Addr) (K : PySem.W.Frag) : Sp := fun vs H Q E => ∃ (v : V) (r z : Str) (n : Int), vs = [v, .str r, .str z, .int n] ∧ IsAlpha r ∧ IsAlpha z ∧ Good H ∧ ((∃ (p : Addr) (xs : List V) (es : List EnS.Arc), v = .ref p ∧ Own.RowAt K H p xs ∧ xs.length ≤ 400 ∧ EntL aimg H xs es ∧ (∀ e ∈ es, GoodA r z n e) ∧
  ∀ (ys : List V) (ds : List EnS.Arc) (l : Addr) (H' : Hp), ds.Pairwise EnS.ALt → (∀ e, e ∈ ds ↔ e ∈ es) → ds.length ≤ es.length → EntL aimg H' ys ds → Same H H' → H l = none → H' l = some (.lst ys) → Q (.ref l) H') ∨ ∃ f, FltAt K (fun H v => ArcV H r z n v) H v f ∧ RaisedF H (f.cls cE cL) (f.fs (Str.ofString "arcs")) E)
theorem ok_checked_arcs (T : Txt K mg base) : FnOk P w K mg base (L2.CX P w) (7 + 1) T.f_checked_arcs T.fd_checked_arcs ["entries", "read", "write", "size"] (sp_checked_arcs T.C_BadEntry T.C_TooLarge K) := by
  refine T.F_checked_arcs.okX sc_checked_arcs (fun vs H Q E h => ?_) (fun cdv A outer s H vs Q E hr h => ?_)
  · obtain ⟨v, r, z, n, rfl, _⟩ := h
    rfl
  · obtain ⟨v, r, z, n, rfl, ar, al, good, h⟩ := h
    refine ⟨_, (C8.pss_cut (ps_for (passes_of rfl) rfl (EnT.pi_enumS (by rfl) T.z_enumerate (pa_cons (pe_callS (ok_check_many T) (hr.mono (by first | decide | exact Nat.le_refl _)) (by rfl) T.g_check_many T.F_check_many.kp T.b_check_many (fun σ => passAt (takes_of rfl rfl rfl rfl) σ) (pa_cons pe_str (pa_cons (pv 0) pa_nil))) pa_nil)) (pg_tup (by rfl) (pgs_cons (pg_name (i := 4) sc_checked_arcs.nd rfl (.inl rfl)) (pgs_cons (pg_name (i := 5) sc_checked_arcs.nd rfl (.inl rfl)) pgs_nil))) (pss_one (ps_if (pt_not (pt_val (pe_call (ok_is_arc T) (hr.mono (by first | decide | exact Nat.le_refl _)) (by rfl) T.g_is_arc T.F_is_arc.kp T.b_is_arc .nil pass0 (pa_cons (pv 5) (pa_cons (pv 1) (pa_cons (pv 2) (pa_cons (pv 3) pa_nil))))))) (pss_one (ps_raise rfl (takes_of rfl rfl rfl rfl) (pmk_err2 T.E_BadEntry T.iI_BadEntry T.tI_BadEntry T.no_BadEntry_place T.no_BadEntry_index (ok_init2 (k := 0) T.FI_BadEntry sci_BadEntry rfl) (hr.mono (by first | decide | exact Nat.le_refl _)) T.bI_BadEntry pass0 (pa_cons pe_str (pa_cons (pv 4) pa_nil))))) pss_nil)))
      (pss_one (ps_ret (pe_callBK (SkF.cr_sortKey (kd_arc_key T) T.b_arc_key (hr.mono (by first | decide | exact Nat.le_refl _)) hr.units relA_same) (by rfl) T.z_sorted (by decide +kernel) (pa_cons (pe_callTy (call_list_dT rfl) (by rfl) T.z_list (by decide +kernel) (pa_cons (DcT.pe_dcT (own := [("entry", 5)]) (g := gName 5) (Nat.lt_of_le_of_lt (Nat.le_add_right _ 64) hr.units) rfl sc_checked_arcs.nd (EnT.pi_seq (pv 0)) (blkOk_by (N := ["entries", "read", "write", "size", "index", "entry"]) (sc := defScope s_checked_arcs) (by decide +kernel)) (fun _ _ _ _ _ => pg_name (i := 5) sc_checked_arcs.nd rfl (Or.inl rfl)) (fun _ _ _ _ _ => pts_nil) (fun _ _ _ _ _ => (pv 5)) (fun _ _ _ _ _ => pe_bl)) pa_nil)) pa_nil) (pk_cons (pe_glob (v := .ref T.f_arc_key) (by rfl) T.g_arc_key rfl) pk_nil))))), ?_⟩
    rcases h with ⟨p, xs, es, rfl, hp, le, ents, ok, q⟩ | ⟨f, fl, qe⟩
    · refine ⟨fun σ' H' => (∃ y y', σ' = [some (.ref p), some (.str r), some (.str z), some (.int n), y, y']) ∧ Same H H', ?_, ?_⟩
      · refine ⟨_, rfl, Str.ofString "arcs", _, rfl, .inl ⟨p, xs, rfl, hp, le, fun H1 s1 => ⟨p, xs, rfl, ?_⟩⟩⟩
        refine for_enumS (hp.same s1).sq (fun i σ H' => (∃ y y', σ = [some (.ref p), some (.str r), some (.str z), some (.int n), y, y']) ∧ Same H1 H') ⟨⟨_, _, rfl⟩, .refl _⟩ (fun i σ H' h => h.2) ?_ fun σ H' h => ⟨h.1, s1.trans h.2⟩
        rintro i x σ H' T hx ⟨⟨y, y', rfl⟩, s2⟩ nT
        have k := same_new (o := .tup [.int ((i : Nat) : Int), x]) nT
        have hT : (upd H' T (.tup [.int ((i : Nat) : Int), x])) T = some (.tup [.int ((i : Nat) : Int), x]) := upd_same
        generalize upd H' T (.tup [.int ((i : Nat) : Int), x]) = H2 at k hT ⊢
        have sm := (s1.trans s2).trans k
        obtain ⟨e, t, he, rfl, ht⟩ := ents.get hx
        obtain ⟨e0, e1, e2, e3, e4, e5, e6, e7⟩ := ok e (List.mem_of_getElem? he)
        have ht2 := sm _ _ ht
        have sv : Shal H2 (.ref t) := .inr (.inr (.inr (.inr ⟨t, _, rfl, .inr ht2⟩)))
        refine ⟨T, _, rfl, .inl (.inl hT), rfl, _, _, rfl, _, _, rfl, rfl, ?_⟩
        refine ⟨_, rfl, _, rfl, _, rfl, _, rfl, .ref t, r, z, n, rfl, ar, al, sv, fun t' zs e' h' y hy => ?_, sm.good good, fun b H3 hb s3 => ⟨_, rfl, ?_⟩⟩
        · cases e'
          rw [ht2] at h'
          cases h'
          rcases List.mem_cons.mp hy with rfl | hy
          · exact shal_int
          rcases List.mem_cons.mp hy with rfl | hy
          · exact shal_str (by omega)
          rcases List.mem_cons.mp hy with rfl | hy
          · exact shal_str (by omega)
          · rw [List.mem_singleton.mp hy]
            exact shal_int
        · have : b = true := hb.mpr ⟨t, e.1, e.2.1, e.2.2.1, e.2.2.2, rfl, ht2, e0, e1, e2, e3, e4, e5, e6, e7⟩
          subst this
          exact iteN rfl ⟨⟨_, _, rfl⟩, (s2.trans k).trans s3⟩
      rintro σ' H1 ⟨⟨y, y', rfl⟩, s1⟩
      have ents1 := ents.same s1
      dsimp only [tRet, tCKw, tCons, tCB]
      refine dct_ents (i := 5) (j := 0) (σ := [some (.ref p), some (.str r), some (.str z), some (.int n), y, y']) apk_inj (es := es) rfl (fun _ => rfl) (fun _ => rfl) (fun _ _ _ h => h) (fun _ _ _ h => h) (hp.same s1).sq (by omega) ents1 fun D H2 s2 nD hD => ?_
      refine ⟨D, _, rfl, .inl hD, fun l0 bs nl0 hk => ?_⟩
      have k3 := same_new (o := .lst (bs.map V.ref)) nl0
      have hl0 : (upd H2 l0 (.lst (bs.map V.ref))) l0 = some (.lst (bs.map V.ref)) := upd_same
      have ent3 : EntL aimg (upd H2 l0 (.lst (bs.map V.ref))) (bs.map V.ref) (onces es) := (ents_keys (pk := apk) hk).same k3
      generalize upd H2 l0 (.lst (bs.map V.ref)) = H3 at k3 hl0 ent3 ⊢
      have dat := fun t e => adec_at (H := H3) t e
      have of : ∀ v ∈ bs.map V.ref, ∃ e t, e ∈ onces es ∧ v = .ref t ∧ H3 t = some (.tup (aimg e)) := fun v hv => by
        obtain ⟨i, hi⟩ := List.getElem?_of_mem hv
        obtain ⟨e, t, he, ev, ht⟩ := ent3.get hi
        exact ⟨e, t, List.mem_of_getElem? he, ev, ht⟩
      refine ⟨l0, bs.map V.ref, fun v => akeyE (adec H3 v), rfl, rfl, .inl (.inl hl0), fun v hv => ?_, fun d hd d' hd' => ?_, .inl fun d hd => ?_, fun v hv => EnS.depth_akey _ _ _ _, fun l H4 s4 nl hl => ?_⟩
      · obtain ⟨e, t, he, rfl, ht⟩ := of v hv
        refine ⟨t, e.1, e.2.1, e.2.2.1, e.2.2.2, rfl, ht, ?_, by dsimp only; rw [dat t e ht]; rfl⟩
        have := (ok e ((onces_mem es e).mp he)).2.2.2.2.2.1
        omega
      · obtain ⟨v, _, rfl⟩ := List.mem_map.mp hd
        obtain ⟨v', _, rfl⟩ := List.mem_map.mp hd'
        exact EnS.alike_akey _ _ _ _ _ _ _ _
      · obtain ⟨v, _, rfl⟩ := List.mem_map.mp hd
        exact ⟨_, _, rfl⟩
      · obtain ⟨e1, ent4⟩ := ent3.perm dat (List.mergeSort_perm (bs.map V.ref) (PySem.W.dataLe false fun v => akeyE (adec H3 v)))
        have nd : ((bs.map V.ref).map (adec H3)).Nodup := by
          rw [← e1]
          exact onces_nodup es
        have pm := (List.mergeSort_perm (bs.map V.ref) (PySem.W.dataLe false fun v => akeyE (adec H3 v))).map (adec H3)
        rw [← e1] at pm
        refine q _ _ l H4 (sorted_strict (enc := akeyE) (dec := adec H3) (fun e f => EnS.le_akey) _ nd) (fun e => by rw [pm.mem_iff, onces_mem]) (by rw [pm.length_eq]; exact onces_len es) (ent4.same s4) (((s1.trans s2).trans k3).trans s4) (s1.free (s2.free (k3.free nl))) hl
    · refine ⟨fun _ _ => False, ?_, fun _ _ h => h.elim⟩
      cases f with
      | shape => exact ⟨_, rfl, Str.ofString "arcs", v, rfl, .inr (.inl ⟨fl, qe⟩)⟩
      | large =>
        obtain ⟨p, xs, rfl, hp, lt, le⟩ := fl
        exact ⟨_, rfl, Str.ofString "arcs", _, rfl, .inr (.inr ⟨p, xs, rfl, hp, lt, le, qe⟩)⟩
      | «at» k0 =>
        obtain ⟨p, xs, x0, rfl, hp, le, hx0, bad, before⟩ := fl
        have lk := (List.getElem?_eq_some_iff.mp hx0).1
        refine ⟨_, rfl, Str.ofString "arcs", _, rfl, .inl ⟨p, xs, rfl, hp, le, fun H1 s1 => ⟨p, xs, rfl, ?_⟩⟩⟩
        refine for_enumS (hp.same s1).sq (fun i σ H' => (∃ y y', σ = [some (.ref p), some (.str r), some (.str z), some (.int n), y, y']) ∧ Same H1 H' ∧ i ≤ k0) ⟨⟨_, _, rfl⟩, .refl _, Nat.zero_le _⟩ (fun i σ H' h => h.2.1) ?_ fun σ H' h => (by have := h.2.2; omega)
        rintro i x σ H' T' hx ⟨⟨y, y', rfl⟩, s2, ik⟩ nT
        have k := same_new (o := .tup [.int ((i : Nat) : Int), x]) nT
        have hT : (upd H' T' (.tup [.int ((i : Nat) : Int), x])) T' = some (.tup [.int ((i : Nat) : Int), x]) := upd_same
        generalize upd H' T' (.tup [.int ((i : Nat) : Int), x]) = H2 at k hT ⊢
        have sm := (s1.trans s2).trans k
        obtain ⟨okx, shx, inx⟩ := before i x ik hx
        refine ⟨T', _, rfl, .inl (.inl hT), rfl, _, _, rfl, _, _, rfl, rfl, ?_⟩
        refine ⟨_, rfl, _, rfl, _, rfl, _, rfl, x, r, z, n, rfl, ar, al, shx.same sm, inx.same shx sm, sm.good good, fun b H3 hb s3 => ⟨_, rfl, ?_⟩⟩
        by_cases e : i < k0
        · have : b = true := hb.mpr ((okx e).same sm)
          subst this
          exact iteN rfl ⟨⟨_, _, rfl⟩, (s2.trans k).trans s3, e⟩
        · have e : i = k0 := by omega
          subst e
          rw [hx0] at hx
          cases hx
          have : b = false := by
            cases b with
            | false => rfl
            | true => exact (bad ((hb.mp rfl).back sm shx)).elim
          subst this
          exact iteC rfl ⟨_, rfl, _, _, rfl, fun d nd => qe d H3 _ (sm.trans s3) nd rfl⟩

def sp_pair_key (_ : PySem.W.Frag) : Sp := fun vs H Q _ => ∃ (t : Addr) (i : Int) (x : Str), vs = [.ref t] ∧ H t = some (.tup [.int i, .str x]) ∧ x.length ≤ 1000000 ∧
  ∀ (p p' : Addr) (H' : Hp), Same H H' → H p = none → H' p = some (.tup [.int i, .ref p']) → H' p' = some (.tup [.int (x.length : Nat), .str x]) → Q (.ref p) H'
theorem ok_pair_key (T : Txt K mg base) : FnOk P w K mg base CX0 (1 + 1) T.f_pair_key T.fd_pair_key ["pair"] (sp_pair_key K) := by
  refine T.F_pair_key.ok sc_pair_key (fun vs H Q E h => ?_) (fun cdv A outer s H vs Q E hr h => ?_)
  · obtain ⟨t, i, x, rfl, _⟩ := h
    rfl
  · obtain ⟨t, i, x, rfl, ht, sx, q⟩ := h
    refine ⟨_, (pss_cons (ps_asg (pv 0) (pg_tup (by rfl) (pgs_cons (pg_name (i := 1) sc_pair_key.nd rfl (.inl rfl)) (pgs_cons (pg_name (i := 2) sc_pair_key.nd rfl (.inl rfl)) pgs_nil))))
      (pss_one (ps_ret (pe_tup (pa_cons (pv 1) (pa_cons (pe_call (ok_word_key T) (hr.mono (by first | decide | exact Nat.le_refl _)) (by rfl) T.g_word_key T.F_word_key.kp T.b_word_key .nil pass0 (pa_cons (pv 2) pa_nil)) pa_nil)))))), ?_⟩
    refine ⟨_, rfl, t, _, rfl, .inl (.inl ht), rfl, _, _, rfl, _, _, rfl, rfl, ?_⟩
    refine ⟨_, rfl, _, rfl, x, rfl, sx, fun p1 H1 s1 n1 h1 => ⟨by show 2 ≤ sizeLine; decide, fun p np => ?_⟩⟩
    have k := same_new (o := .tup [.int i, .ref p1]) np
    exact q p p1 _ (s1.trans k) (s1.free np) upd_same (k _ _ h1)
theorem kd_pair_key (T : Txt K mg base) : FnOk P w K mg base CX0 (1 + 1) T.f_pair_key T.fd_pair_key ["pair"] (SkF.spKeyD K relP) := (ok_pair_key T).imp fun vs H Q E ⟨x, d, e, ⟨t, i, y, ex, ht, l, ed⟩, q⟩ => by
  subst ex
  subst ed
  exact ⟨t, i, y, e, ht, l, fun p p' H' s _ h h' => q _ H' s (dp_pkey h h')⟩

def sp_checked_pairs [Tabl] (cE cL : Addr) (K : PySem.W.Frag) : Sp := fun vs H Q E => ∃ (pl : Str) (v : V) (z : Str) (n : Int), vs = [.str pl, v, .str z, .int n] ∧ IsAlpha z ∧ Good H ∧ ((∃ (p : Addr) (xs : List V) (es : List (Int × Str)), v = .ref p ∧ Own.RowAt K H p xs ∧ xs.length ≤ 400 ∧ EntL pimg H xs es ∧ (∀ e ∈ es, GoodP z n e) ∧
  ∀ (ys : List V) (ds : List (Int × Str)) (l : Addr) (H' : Hp), ds.Pairwise EnS.PLt → (∀ e, e ∈ ds ↔ e ∈ es) → ds.length ≤ es.length → EntL pimg H' ys ds → Same H H' → H l = none → H' l = some (.lst ys) → Q (.ref l) H') ∨ ∃ f, FltAt K (fun H v => PairV H z n v) H v f ∧ RaisedF H (f.cls cE cL) (f.fs pl) E)
theorem ok_checked_pairs (T : Txt K mg base) : FnOk P w K mg base (L2.CX P w) (6 + 1) T.f_checked_pairs T.fd_checked_pairs ["place", "entries", "write", "size"] (sp_checked_pairs T.C_BadEntry T.C_TooLarge K) := by
  refine T.F_checked_pairs.okX sc_checked_pairs (fun vs H Q E h => ?_) (fun cdv A outer s H vs Q E hr h => ?_)
  · obtain ⟨pl, v, z, n, rfl, _⟩ := h
    rfl
  · obtain ⟨pl, v, z, n, rfl, al, good, h⟩ := h
    refine ⟨_, (C8.pss_cut (ps_for (passes_of rfl) rfl (EnT.pi_enumS (by rfl) T.z_enumerate (pa_cons (pe_callS (ok_check_many T) (hr.mono (by first | decide | exact Nat.le_refl _)) (by rfl) T.g_check_many T.F_check_many.kp T.b_check_many (fun σ => passAt (takes_of rfl rfl rfl rfl) σ) (pa_cons (pv 0) (pa_cons (pv 1) pa_nil))) pa_nil)) (pg_tup (by rfl) (pgs_cons (pg_name (i := 4) sc_checked_pairs.nd rfl (.inl rfl)) (pgs_cons (pg_name (i := 5) sc_checked_pairs.nd rfl (.inl rfl)) pgs_nil))) (pss_one (ps_if (pt_not (pt_val (pe_call (ok_is_pair T) (hr.mono (by first | decide | exact Nat.le_refl _)) (by rfl) T.g_is_pair T.F_is_pair.kp T.b_is_pair .nil pass0 (pa_cons (pv 5) (pa_cons (pv 2) (pa_cons (pv 3) pa_nil)))))) (pss_one (ps_raise rfl (takes_of rfl rfl rfl rfl) (pmk_err2 T.E_BadEntry T.iI_BadEntry T.tI_BadEntry T.no_BadEntry_place T.no_BadEntry_index (ok_init2 (k := 0) T.FI_BadEntry sci_BadEntry rfl) (hr.mono (by first | decide | exact Nat.le_refl _)) T.bI_BadEntry pass0 (pa_cons (pv 0) (pa_cons (pv 4) pa_nil))))) pss_nil)))
      (pss_one (ps_ret (pe_callBK (SkF.cr_sortKey (kd_pair_key T) T.b_pair_key (hr.mono (by first | decide | exact Nat.le_refl _)) hr.units relP_same) (by rfl) T.z_sorted (by decide +kernel) (pa_cons (pe_callTy (call_list_dT rfl) (by rfl) T.z_list (by decide +kernel) (pa_cons (DcT.pe_dcT (own := [("entry", 5)]) (g := gName 5) (Nat.lt_of_le_of_lt (Nat.le_add_right _ 64) hr.units) rfl sc_checked_pairs.nd (EnT.pi_seq (pv 1)) (blkOk_by (N := ["place", "entries", "write", "size", "index", "entry"]) (sc := defScope s_checked_pairs) (by decide +kernel)) (fun _ _ _ _ _ => pg_name (i := 5) sc_checked_pairs.nd rfl (Or.inl rfl)) (fun _ _ _ _ _ => pts_nil) (fun _ _ _ _ _ => (pv 5)) (fun _ _ _ _ _ => pe_bl)) pa_nil)) pa_nil) (pk_cons (pe_glob (v := .ref T.f_pair_key) (by rfl) T.g_pair_key rfl) pk_nil))))), ?_⟩
    rcases h with ⟨p, xs, es, rfl, hp, le, ents, ok, q⟩ | ⟨f, fl, qe⟩
    · refine ⟨fun σ' H' => (∃ y y', σ' = [some (.str pl), some (.ref p), some (.str z), some (.int n), y, y']) ∧ Same H H', ?_, ?_⟩
      · refine ⟨_, rfl, _, rfl, pl, _, rfl, .inl ⟨p, xs, rfl, hp, le, fun H1 s1 => ⟨p, xs, rfl, ?_⟩⟩⟩
        refine for_enumS (hp.same s1).sq (fun i σ H' => (∃ y y', σ = [some (.str pl), some (.ref p), some (.str z), some (.int n), y, y']) ∧ Same H1 H') ⟨⟨_, _, rfl⟩, .refl _⟩ (fun i σ H' h => h.2) ?_ fun σ H' h => ⟨h.1, s1.trans h.2⟩
        rintro i x σ H' T hx ⟨⟨y, y', rfl⟩, s2⟩ nT
        have k := same_new (o := .tup [.int ((i : Nat) : Int), x]) nT
        have hT : (upd H' T (.tup [.int ((i : Nat) : Int), x])) T = some (.tup [.int ((i : Nat) : Int), x]) := upd_same
        generalize upd H' T (.tup [.int ((i : Nat) : Int), x]) = H2 at k hT ⊢
        have sm := (s1.trans s2).trans k
        obtain ⟨e, t, he, rfl, ht⟩ := ents.get hx
        obtain ⟨e0, e1, e2, e3⟩ := ok e (List.mem_of_getElem? he)
        have ht2 := sm _ _ ht
        have sv : Shal H2 (.ref t) := .inr (.inr (.inr (.inr ⟨t, _, rfl, .inr ht2⟩)))
        refine ⟨T, _, rfl, .inl (.inl hT), rfl, _, _, rfl, _, _, rfl, rfl, ?_⟩
        refine ⟨_, rfl, _, rfl, _, rfl, .ref t, z, n, rfl, al, sv, fun t' zs e' h' y hy => ?_, sm.good good, fun b H3 hb s3 => ⟨_, rfl, ?_⟩⟩
        · cases e'
          rw [ht2] at h'
          cases h'
          rcases List.mem_cons.mp hy with rfl | hy
          · exact shal_int
          · rw [List.mem_singleton.mp hy]
            exact shal_str (by omega)
        · have : b = true := hb.mpr ⟨t, e.1, e.2, rfl, ht2, e0, e1, e2, e3⟩
          subst this
          exact iteN rfl ⟨⟨_, _, rfl⟩, (s2.trans k).trans s3⟩
      rintro σ' H1 ⟨⟨y, y', rfl⟩, s1⟩
      have ents1 := ents.same s1
      dsimp only [tRet, tCKw, tCons, tCB]
      refine dct_ents (i := 5) (j := 1) (σ := [some (.str pl), some (.ref p), some (.str z), some (.int n), y, y']) ppk_inj (es := es) rfl (fun _ => rfl) (fun _ => rfl) (fun _ _ _ h => h) (fun _ _ _ h => h) (hp.same s1).sq (by omega) ents1 fun D H2 s2 nD hD => ?_
      refine ⟨D, _, rfl, .inl hD, fun l0 bs nl0 hk => ?_⟩
      have k3 := same_new (o := .lst (bs.map V.ref)) nl0
      have hl0 : (upd H2 l0 (.lst (bs.map V.ref))) l0 = some (.lst (bs.map V.ref)) := upd_same
      have ent3 : EntL pimg (upd H2 l0 (.lst (bs.map V.ref))) (bs.map V.ref) (onces es) := (ents_keys (pk := ppk) hk).same k3
      generalize upd H2 l0 (.lst (bs.map V.ref)) = H3 at k3 hl0 ent3 ⊢
      have dat := fun t e => pdec_at (H := H3) t e
      have of : ∀ v ∈ bs.map V.ref, ∃ e t, e ∈ onces es ∧ v = .ref t ∧ H3 t = some (.tup (pimg e)) := fun v hv => by
        obtain ⟨i, hi⟩ := List.getElem?_of_mem hv
        obtain ⟨e, t, he, ev, ht⟩ := ent3.get hi
        exact ⟨e, t, List.mem_of_getElem? he, ev, ht⟩
      refine ⟨l0, bs.map V.ref, fun v => EnS.pkey (pdec H3 v).1 (pdec H3 v).2, rfl, rfl, .inl (.inl hl0), fun v hv => ?_, fun d hd d' hd' => ?_, .inl fun d hd => ?_, fun v hv => EnS.depth_pkey _ _, fun l H4 s4 nl hl => ?_⟩
      · obtain ⟨e, t, he, rfl, ht⟩ := of v hv
        refine ⟨t, e.1, e.2, rfl, ht, ?_, by dsimp only; rw [dat t e ht]⟩
        have := (ok e ((onces_mem es e).mp he)).2.2.2
        omega
      · obtain ⟨v, _, rfl⟩ := List.mem_map.mp hd
        obtain ⟨v', _, rfl⟩ := List.mem_map.mp hd'
        exact EnS.alike_pkey _ _ _ _
      · obtain ⟨v, _, rfl⟩ := List.mem_map.mp hd
        exact ⟨_, _, rfl⟩
      · obtain ⟨e1, ent4⟩ := ent3.perm dat (List.mergeSort_perm (bs.map V.ref) (PySem.W.dataLe false fun v => EnS.pkey (pdec H3 v).1 (pdec H3 v).2))
        have nd : ((bs.map V.ref).map (pdec H3)).Nodup := by
          rw [← e1]
          exact onces_nodup es
        have pm := (List.mergeSort_perm (bs.map V.ref) (PySem.W.dataLe false fun v => EnS.pkey (pdec H3 v).1 (pdec H3 v).2)).map (pdec H3)
        rw [← e1] at pm
        refine q _ _ l H4 (sorted_strict (enc := fun e => EnS.pkey e.1 e.2) (dec := pdec H3) (fun e f => EnS.le_pkey) _ nd) (fun e => by rw [pm.mem_iff, onces_mem]) (by rw [pm.length_eq]; exact onces_len es) (ent4.same s4) (((s1.trans s2).trans k3).trans s4) (s1.free (s2.free (k3.free nl))) hl
    · refine ⟨fun _ _ => False, ?_, fun _ _ h => h.elim⟩
      cases f with
      | shape => exact ⟨_, rfl, _, rfl, pl, v, rfl, .inr (.inl ⟨fl, qe⟩)⟩
      | large =>
        obtain ⟨p, xs, rfl, hp, lt, le⟩ := fl
        exact ⟨_, rfl, _, rfl, pl, _, rfl, .inr (.inr ⟨p, xs, rfl, hp, lt, le, qe⟩)⟩
      | «at» k0 =>
        obtain ⟨p, xs, x0, rfl, hp, le, hx0, bad, before⟩ := fl
        have lk := (List.getElem?_eq_some_iff.mp hx0).1
        refine ⟨_, rfl, _, rfl, pl, _, rfl, .inl ⟨p, xs, rfl, hp, le, fun H1 s1 => ⟨p, xs, rfl, ?_⟩⟩⟩
        refine for_enumS (hp.same s1).sq (fun i σ H' => (∃ y y', σ = [some (.str pl), some (.ref p), some (.str z), some (.int n), y, y']) ∧ Same H1 H' ∧ i ≤ k0) ⟨⟨_, _, rfl⟩, .refl _, Nat.zero_le _⟩ (fun i σ H' h => h.2.1) ?_ fun σ H' h => (by have := h.2.2; omega)
        rintro i x σ H' T' hx ⟨⟨y, y', rfl⟩, s2, ik⟩ nT
        have k := same_new (o := .tup [.int ((i : Nat) : Int), x]) nT
        have hT : (upd H' T' (.tup [.int ((i : Nat) : Int), x])) T' = some (.tup [.int ((i : Nat) : Int), x]) := upd_same
        generalize upd H' T' (.tup [.int ((i : Nat) : Int), x]) = H2 at k hT ⊢
        have sm := (s1.trans s2).trans k
        obtain ⟨okx, shx, inx⟩ := before i x ik hx
        refine ⟨T', _, rfl, .inl (.inl hT), rfl, _, _, rfl, _, _, rfl, rfl, ?_⟩
        refine ⟨_, rfl, _, rfl, _, rfl, x, z, n, rfl, al, shx.same sm, inx.same shx sm, sm.good good, fun b H3 hb s3 => ⟨_, rfl, ?_⟩⟩
        by_cases e : i < k0
        · have : b = true := hb.mpr ((okx e).same sm)
          subst this
          exact iteN rfl ⟨⟨_, _, rfl⟩, (s2.trans k).trans s3, e⟩
        · have e : i = k0 := by omega
          subst e
          rw [hx0] at hx
          cases hx
          have : b = false := by
            cases b with
            | false => rfl
            | true => exact (bad ((hb.mp rfl).back sm shx)).elim
          subst this
          exact iteC rfl ⟨_, rfl, _, rfl, _, _, rfl, fun d nd => qe d H3 _ (sm.trans s3) nd rfl⟩

def sp_Machine___init__ [Tabl] (cL cN cE cT C : Addr) (K : PySem.W.Frag) : Sp := fun vs H Q E => ∃ (m dx : Addr) (rv zv nv bv av ev : V), vs = [.ref m, rv, zv, nv, bv, av, ev] ∧ H m = some (.ins C dx []) ∧ Good H ∧
  ((∃ (r z : Str) (n : Int) (b a e : Addr) (be : List (Int × Str)) (ae : List EnS.Arc) (ee : List (Int × Str)), rv = .str r ∧ zv = .str z ∧ nv = .int n ∧ bv = .ref b ∧ av = .ref a ∧ ev = .ref e ∧ GoodM r z n be ae ee ∧ RowE K pimg H b be ∧ RowE K aimg H a ae ∧ RowE K pimg H e ee ∧
    ∀ H' : Hp, But m H H' → Good H' → Mach C H' m r z n be ae ee → Young C H H' m → Q .non H') ∨
   ∃ f, MFAt K H rv zv nv bv av ev f ∧ RefusedM m H (f.cls cL cN cE cT) (f.fs rv zv nv) E)
theorem ok_Machine___init__ (T : Txt K mg base) : FnOk P w K mg base (L2.CX P w) (8 + 1) T.f_Machine___init__ T.fd_Machine___init__ ["self", "read", "write", "size", "begins", "arcs", "ends"] (sp_Machine___init__ T.C_BadLetters T.C_BadNumber T.C_BadEntry T.C_TooLarge T.C_Machine K) := by
  refine T.F_Machine___init__.okX sc_Machine___init__ (fun vs H Q E h => ?_) (fun cdv A outer s H vs Q E hr h => ?_)
  · obtain ⟨m, dx, rv, zv, nv, bv, av, ev, rfl, _⟩ := h
    rfl
  · obtain ⟨m, dx, rv, zv, nv, bv, av, ev, rfl, hm, good, h⟩ := h
    refine ⟨_, (pss_cons (ps_fld (pv 0) (pe_callS (ok_check_letters T) (hr.mono (by first | decide | exact Nat.le_refl _)) (by rfl) T.g_check_letters T.F_check_letters.kp T.b_check_letters (fun σ => passAt (takes_of rfl rfl rfl rfl) σ) (pa_cons (pv 1) pa_nil)) rfl)
      (pss_cons (ps_fld (pv 0) (pe_callS (ok_check_letters T) (hr.mono (by first | decide | exact Nat.le_refl _)) (by rfl) T.g_check_letters T.F_check_letters.kp T.b_check_letters (fun σ => passAt (takes_of rfl rfl rfl rfl) σ) (pa_cons (pv 2) pa_nil)) rfl)
      (pss_cons (ps_fld (pv 0) (pe_callS (ok_check_number T) (hr.mono (by first | decide | exact Nat.le_refl _)) (by rfl) T.g_check_number T.F_check_number.kp T.b_check_number (fun σ => passAt (takes_of rfl rfl rfl rfl) σ) (pa_cons (pv 3) (pa_cons pe_int (pa_cons (pe_glob (v := .int 64) (by rfl) T.c_MAX_STATES ⟨_, rfl⟩) pa_nil)))) rfl)
      (pss_cons (ps_fld (pv 0) (pe_callS (ok_checked_pairs T) (hr.mono (by first | decide | exact Nat.le_refl _)) (by rfl) T.g_checked_pairs T.F_checked_pairs.kp T.b_checked_pairs (fun σ => passAt (takes_of rfl rfl rfl rfl) σ) (pa_cons pe_str (pa_cons (pv 4) (pa_cons (pv 2) (pa_cons (pv 3) pa_nil))))) rfl)
      (pss_cons (ps_fld (pv 0) (pe_callS (ok_checked_arcs T) (hr.mono (by first | decide | exact Nat.le_refl _)) (by rfl) T.g_checked_arcs T.F_checked_arcs.kp T.b_checked_arcs (fun σ => passAt (takes_of rfl rfl rfl rfl) σ) (pa_cons (pv 5) (pa_cons (pv 1) (pa_cons (pv 2) (pa_cons (pv 3) pa_nil))))) rfl)
      (pss_one (ps_fld (pv 0) (pe_callS (ok_checked_pairs T) (hr.mono (by first | decide | exact Nat.le_refl _)) (by rfl) T.g_checked_pairs T.F_checked_pairs.kp T.b_checked_pairs (fun σ => passAt (takes_of rfl rfl rfl rfl) σ) (pa_cons pe_str (pa_cons (pv 6) (pa_cons (pv 2) (pa_cons (pv 3) pa_nil))))) rfl))))))), ?_⟩
    rcases h with ⟨r, z, n, b, a, e, be, ae, ee, rfl, rfl, rfl, rfl, rfl, rfl, ⟨ar, az, n0, n64, gb, ga, ge⟩, ⟨bx, rb, lb, eb⟩, ⟨ax, ra, la, ea⟩, ⟨ex, re, le, eE⟩, q⟩ | ⟨f, hf, qe⟩
    · -- read, write, size
      refine ⟨_, rfl, .str r, rfl, shal_str (Nat.le_trans ar.len4 (by decide)), good, fun _ H1 s1 => ⟨_, rfl, m, _, dx, _, rfl, s1 _ _ hm, T.cl_Machine, T.no_Machine__read, by show 0 < 1000; decide, ?_⟩, fun no => (no ⟨_, rfl, ar⟩).elim⟩
      have B1 : But m H (upd H1 m (.ins T.C_Machine dx (putF "_read" (.str r) []))) := (But.same s1).trans (But.put (s1 _ _ hm))
      have h1 : (upd H1 m (.ins T.C_Machine dx (putF "_read" (.str r) []))) m = some (.ins T.C_Machine dx (putF "_read" (.str r) [])) := upd_same
      generalize upd H1 m (.ins T.C_Machine dx (putF "_read" (.str r) [])) = G1 at B1 h1 ⊢
      refine ⟨_, rfl, .str z, rfl, shal_str (Nat.le_trans az.len4 (by decide)), B1.good good, fun _ H2 s2 => ⟨_, rfl, m, _, dx, _, rfl, s2 _ _ h1, T.cl_Machine, T.no_Machine__write, Nat.lt_of_le_of_lt (lenF (k := 0) (Nat.le_refl _)) (by decide), ?_⟩, fun no => (no ⟨_, rfl, az⟩).elim⟩
      have B2 := B1.trans ((But.same s2).trans (But.put (o := .ins T.C_Machine dx (putF "_write" (.str z) (putF "_read" (.str r) []))) (s2 _ _ h1)))
      have h2 : (upd H2 m (.ins T.C_Machine dx (putF "_write" (.str z) (putF "_read" (.str r) [])))) m = some (.ins T.C_Machine dx (putF "_write" (.str z) (putF "_read" (.str r) []))) := upd_same
      generalize upd H2 m (.ins T.C_Machine dx (putF "_write" (.str z) (putF "_read" (.str r) []))) = G2 at B2 h2 ⊢
      have inr : inR (.int n) 0 64 = true := by
        show (decide (0 ≤ n) && decide (n ≤ 64)) = true
        rw [decide_eq_true n0, decide_eq_true n64]
        rfl
      refine ⟨_, rfl, .int n, 0, 64, rfl, shal_int, fun _ => ⟨_, rfl, m, _, dx, _, rfl, h2, T.cl_Machine, T.no_Machine__size, Nat.lt_of_le_of_lt (lenF (k := 1) (lenF (k := 0) (Nat.le_refl _))) (by decide), ?_⟩, fun no => by rw [inr] at no; cases no⟩
      have B3 := B2.trans (But.put (o := .ins T.C_Machine dx (putF "_size" (.int n) (putF "_write" (.str z) (putF "_read" (.str r) [])))) h2)
      have h3 : (upd G2 m (.ins T.C_Machine dx (putF "_size" (.int n) (putF "_write" (.str z) (putF "_read" (.str r) []))))) m = some (.ins T.C_Machine dx (putF "_size" (.int n) (putF "_write" (.str z) (putF "_read" (.str r) [])))) := upd_same
      generalize upd G2 m (.ins T.C_Machine dx (putF "_size" (.int n) (putF "_write" (.str z) (putF "_read" (.str r) [])))) = G3 at B3 h3 ⊢
      -- begins
      refine ⟨_, rfl, _, rfl, _, rfl, Str.ofString "begins", .ref b, z, n, rfl, az, B3.good good, .inl ⟨b, bx, be, rfl, RowAt.but B3 hm rb, lb, eb.but B3 hm, gb, fun by_ bd bl H4 pw1 me1 le1 en1 s4 nb hb => ?_⟩⟩
      refine ⟨_, rfl, m, _, dx, _, rfl, s4 _ _ h3, T.cl_Machine, T.no_Machine__begins, Nat.lt_of_le_of_lt (lenF (k := 2) (lenF (k := 1) (lenF (k := 0) (Nat.le_refl _)))) (by decide), ?_⟩
      have t4 : Told pimg EnS.PLt H4 bl be := ⟨by_, bd, hb, en1, pw1, me1, le1, by have := eb.len; omega⟩
      have P4 := But.put (o := .ins T.C_Machine dx (putF "_begins" (.ref bl) (putF "_size" (.int n) (putF "_write" (.str z) (putF "_read" (.str r) []))))) (s4 _ _ h3)
      have B4 := B3.trans ((But.same s4).trans P4)
      have t4' := t4.but P4 (s4 _ _ h3)
      have h4 : (upd H4 m (.ins T.C_Machine dx (putF "_begins" (.ref bl) (putF "_size" (.int n) (putF "_write" (.str z) (putF "_read" (.str r) [])))))) m = some (.ins T.C_Machine dx (putF "_begins" (.ref bl) (putF "_size" (.int n) (putF "_write" (.str z) (putF "_read" (.str r) []))))) := upd_same
      generalize upd H4 m (.ins T.C_Machine dx (putF "_begins" (.ref bl) (putF "_size" (.int n) (putF "_write" (.str z) (putF "_read" (.str r) []))))) = G4 at B4 h4 t4' ⊢
      -- arcs
      refine ⟨_, rfl, _, rfl, _, rfl, _, rfl, .ref a, r, z, n, rfl, ar, az, B4.good good, .inl ⟨a, ax, ae, rfl, RowAt.but B4 hm ra, la, ea.but B4 hm, ga, fun ay ad al H5 pw2 me2 le2 en2 s5 na ha => ?_⟩⟩
      refine ⟨_, rfl, m, _, dx, _, rfl, s5 _ _ h4, T.cl_Machine, T.no_Machine__arcs, Nat.lt_of_le_of_lt (lenF (k := 3) (lenF (k := 2) (lenF (k := 1) (lenF (k := 0) (Nat.le_refl _))))) (by decide), ?_⟩
      have t5 : Told aimg EnS.ALt H5 al ae := ⟨ay, ad, ha, en2, pw2, me2, le2, by have := ea.len; omega⟩
      have P5 := But.put (o := .ins T.C_Machine dx (putF "_arcs" (.ref al) (putF "_begins" (.ref bl) (putF "_size" (.int n) (putF "_write" (.str z) (putF "_read" (.str r) [])))))) (s5 _ _ h4)
      have Q5 := (But.same s5).trans P5
      have B5 := B4.trans Q5
      have t5' := t5.but P5 (s5 _ _ h4)
      have t45 := t4'.but Q5 h4
      have nba : bl ≠ al := fun e => by
        obtain ⟨_, _, hl, _⟩ := t4'
        rw [e, na] at hl
        cases hl
      have h5 : (upd H5 m (.ins T.C_Machine dx (putF "_arcs" (.ref al) (putF "_begins" (.ref bl) (putF "_size" (.int n) (putF "_write" (.str z) (putF "_read" (.str r) []))))))) m = some (.ins T.C_Machine dx (putF "_arcs" (.ref al) (putF "_begins" (.ref bl) (putF "_size" (.int n) (putF "_write" (.str z) (putF "_read" (.str r) [])))))) := upd_same
      generalize upd H5 m (.ins T.C_Machine dx (putF "_arcs" (.ref al) (putF "_begins" (.ref bl) (putF "_size" (.int n) (putF "_write" (.str z) (putF "_read" (.str r) [])))))) = G5 at B5 h5 t5' t45 ⊢
      -- ends
      refine ⟨_, rfl, _, rfl, _, rfl, Str.ofString "ends", .ref e, z, n, rfl, az, B5.good good, .inl ⟨e, ex, ee, rfl, RowAt.but B5 hm re, le, eE.but B5 hm, ge, fun ey ed el H6 pw3 me3 le3 en3 s6 ne he => ?_⟩⟩
      refine ⟨_, rfl, m, _, dx, _, rfl, s6 _ _ h5, T.cl_Machine, T.no_Machine__ends, Nat.lt_of_le_of_lt (lenF (k := 4) (lenF (k := 3) (lenF (k := 2) (lenF (k := 1) (lenF (k := 0) (Nat.le_refl _)))))) (by decide), ?_⟩
      have t6 : Told pimg EnS.PLt H6 el ee := ⟨ey, ed, he, en3, pw3, me3, le3, by have := eE.len; omega⟩
      have P6 := But.put (o := .ins T.C_Machine dx (mfs r z n bl al el)) (s6 _ _ h5)
      have Q6 := (But.same s6).trans P6
      have nbe : bl ≠ el := fun e => by
        obtain ⟨_, _, hl, _⟩ := t45
        rw [e, ne] at hl
        cases hl
      have nae : al ≠ el := fun e => by
        obtain ⟨_, _, hl, _⟩ := t5'
        rw [e, ne] at hl
        cases hl
      refine q _ (B5.trans Q6) ((B5.trans Q6).good good) ⟨dx, bl, al, el, upd_same, t45.but Q6 h5, t5'.but Q6 h5, t6.but P6 (s6 _ _ h5), nba, nbe, nae⟩ (.of upd_same ?_ ?_ ?_)
      · exact B3.free nb fun z => by rw [z, h3] at nb; cases nb
      · exact B4.free na fun z => by rw [z, h4] at na; cases na
      · exact B5.free ne fun z => by rw [z, h5] at ne; cases ne
    cases f with
    | read =>
      exact ⟨_, rfl, rv, rfl, hf.1, good, fun al => (hf.2 al).elim, fun _ d H1 H' s nd e => qe d H1 H' (But.same s) nd e⟩
    | write =>
      obtain ⟨⟨r, rfl, ar⟩, sz, nz⟩ := hf
      -- read, write, size
      refine ⟨_, rfl, .str r, rfl, shal_str (Nat.le_trans ar.len4 (by decide)), good, fun _ H1 s1 => ⟨_, rfl, m, _, dx, _, rfl, s1 _ _ hm, T.cl_Machine, T.no_Machine__read, by show 0 < 1000; decide, ?_⟩, fun no => (no ⟨_, rfl, ar⟩).elim⟩
      have B1 : But m H (upd H1 m (.ins T.C_Machine dx (putF "_read" (.str r) []))) := (But.same s1).trans (But.put (s1 _ _ hm))
      have h1 : (upd H1 m (.ins T.C_Machine dx (putF "_read" (.str r) []))) m = some (.ins T.C_Machine dx (putF "_read" (.str r) [])) := upd_same
      generalize upd H1 m (.ins T.C_Machine dx (putF "_read" (.str r) [])) = G1 at B1 h1 ⊢
      exact ⟨_, rfl, zv, rfl, sz.kt (Kt.ins B1 hm), B1.good good, fun al => (nz al).elim, fun _ => qe.raisedF B1⟩
    | size =>
      obtain ⟨⟨r, rfl, ar⟩, ⟨z, rfl, az⟩, sn, nn⟩ := hf
      -- read, write, size
      refine ⟨_, rfl, .str r, rfl, shal_str (Nat.le_trans ar.len4 (by decide)), good, fun _ H1 s1 => ⟨_, rfl, m, _, dx, _, rfl, s1 _ _ hm, T.cl_Machine, T.no_Machine__read, by show 0 < 1000; decide, ?_⟩, fun no => (no ⟨_, rfl, ar⟩).elim⟩
      have B1 : But m H (upd H1 m (.ins T.C_Machine dx (putF "_read" (.str r) []))) := (But.same s1).trans (But.put (s1 _ _ hm))
      have h1 : (upd H1 m (.ins T.C_Machine dx (putF "_read" (.str r) []))) m = some (.ins T.C_Machine dx (putF "_read" (.str r) [])) := upd_same
      generalize upd H1 m (.ins T.C_Machine dx (putF "_read" (.str r) [])) = G1 at B1 h1 ⊢
      refine ⟨_, rfl, .str z, rfl, shal_str (Nat.le_trans az.len4 (by decide)), B1.good good, fun _ H2 s2 => ⟨_, rfl, m, _, dx, _, rfl, s2 _ _ h1, T.cl_Machine, T.no_Machine__write, Nat.lt_of_le_of_lt (lenF (k := 0) (Nat.le_refl _)) (by decide), ?_⟩, fun no => (no ⟨_, rfl, az⟩).elim⟩
      have B2 := B1.trans ((But.same s2).trans (But.put (o := .ins T.C_Machine dx (putF "_write" (.str z) (putF "_read" (.str r) []))) (s2 _ _ h1)))
      have h2 : (upd H2 m (.ins T.C_Machine dx (putF "_write" (.str z) (putF "_read" (.str r) [])))) m = some (.ins T.C_Machine dx (putF "_write" (.str z) (putF "_read" (.str r) []))) := upd_same
      generalize upd H2 m (.ins T.C_Machine dx (putF "_write" (.str z) (putF "_read" (.str r) []))) = G2 at B2 h2 ⊢
      exact ⟨_, rfl, nv, 0, 64, rfl, sn.kt (Kt.ins B2 hm), fun y => (by rw [nn] at y; cases y), fun _ => qe.raisedF B2⟩
    | begins f =>
      obtain ⟨r, z, n, ⟨rfl, rfl, rfl, ar, az, n0, n64⟩, fl⟩ := hf
      -- read, write, size
      refine ⟨_, rfl, .str r, rfl, shal_str (Nat.le_trans ar.len4 (by decide)), good, fun _ H1 s1 => ⟨_, rfl, m, _, dx, _, rfl, s1 _ _ hm, T.cl_Machine, T.no_Machine__read, by show 0 < 1000; decide, ?_⟩, fun no => (no ⟨_, rfl, ar⟩).elim⟩
      have B1 : But m H (upd H1 m (.ins T.C_Machine dx (putF "_read" (.str r) []))) := (But.same s1).trans (But.put (s1 _ _ hm))
      have h1 : (upd H1 m (.ins T.C_Machine dx (putF "_read" (.str r) []))) m = some (.ins T.C_Machine dx (putF "_read" (.str r) [])) := upd_same
      generalize upd H1 m (.ins T.C_Machine dx (putF "_read" (.str r) [])) = G1 at B1 h1 ⊢
      refine ⟨_, rfl, .str z, rfl, shal_str (Nat.le_trans az.len4 (by decide)), B1.good good, fun _ H2 s2 => ⟨_, rfl, m, _, dx, _, rfl, s2 _ _ h1, T.cl_Machine, T.no_Machine__write, Nat.lt_of_le_of_lt (lenF (k := 0) (Nat.le_refl _)) (by decide), ?_⟩, fun no => (no ⟨_, rfl, az⟩).elim⟩
      have B2 := B1.trans ((But.same s2).trans (But.put (o := .ins T.C_Machine dx (putF "_write" (.str z) (putF "_read" (.str r) []))) (s2 _ _ h1)))
      have h2 : (upd H2 m (.ins T.C_Machine dx (putF "_write" (.str z) (putF "_read" (.str r) [])))) m = some (.ins T.C_Machine dx (putF "_write" (.str z) (putF "_read" (.str r) []))) := upd_same
      generalize upd H2 m (.ins T.C_Machine dx (putF "_write" (.str z) (putF "_read" (.str r) []))) = G2 at B2 h2 ⊢
      have inr : inR (.int n) 0 64 = true := by
        show (decide (0 ≤ n) && decide (n ≤ 64)) = true
        rw [decide_eq_true n0, decide_eq_true n64]
        rfl
      refine ⟨_, rfl, .int n, 0, 64, rfl, shal_int, fun _ => ⟨_, rfl, m, _, dx, _, rfl, h2, T.cl_Machine, T.no_Machine__size, Nat.lt_of_le_of_lt (lenF (k := 1) (lenF (k := 0) (Nat.le_refl _))) (by decide), ?_⟩, fun no => by rw [inr] at no; cases no⟩
      have B3 := B2.trans (But.put (o := .ins T.C_Machine dx (putF "_size" (.int n) (putF "_write" (.str z) (putF "_read" (.str r) [])))) h2)
      have h3 : (upd G2 m (.ins T.C_Machine dx (putF "_size" (.int n) (putF "_write" (.str z) (putF "_read" (.str r) []))))) m = some (.ins T.C_Machine dx (putF "_size" (.int n) (putF "_write" (.str z) (putF "_read" (.str r) [])))) := upd_same
      generalize upd G2 m (.ins T.C_Machine dx (putF "_size" (.int n) (putF "_write" (.str z) (putF "_read" (.str r) [])))) = G3 at B3 h3 ⊢
      exact ⟨_, rfl, _, rfl, _, rfl, Str.ofString "begins", bv, z, n, rfl, az, B3.good good, .inr ⟨f, fl.kt (fun _ s => PairV.kt (Kt.ins B3 hm) s) (Kt.ins B3 hm), qe.raisedF B3⟩⟩
    | arcs f =>
      obtain ⟨r, z, n, b, be, ⟨rfl, rfl, rfl, ar, az, n0, n64⟩, rfl, ⟨bx, rb, lb, eb⟩, gb, fl⟩ := hf
      -- read, write, size
      refine ⟨_, rfl, .str r, rfl, shal_str (Nat.le_trans ar.len4 (by decide)), good, fun _ H1 s1 => ⟨_, rfl, m, _, dx, _, rfl, s1 _ _ hm, T.cl_Machine, T.no_Machine__read, by show 0 < 1000; decide, ?_⟩, fun no => (no ⟨_, rfl, ar⟩).elim⟩
      have B1 : But m H (upd H1 m (.ins T.C_Machine dx (putF "_read" (.str r) []))) := (But.same s1).trans (But.put (s1 _ _ hm))
      have h1 : (upd H1 m (.ins T.C_Machine dx (putF "_read" (.str r) []))) m = some (.ins T.C_Machine dx (putF "_read" (.str r) [])) := upd_same
      generalize upd H1 m (.ins T.C_Machine dx (putF "_read" (.str r) [])) = G1 at B1 h1 ⊢
      refine ⟨_, rfl, .str z, rfl, shal_str (Nat.le_trans az.len4 (by decide)), B1.good good, fun _ H2 s2 => ⟨_, rfl, m, _, dx, _, rfl, s2 _ _ h1, T.cl_Machine, T.no_Machine__write, Nat.lt_of_le_of_lt (lenF (k := 0) (Nat.le_refl _)) (by decide), ?_⟩, fun no => (no ⟨_, rfl, az⟩).elim⟩
      have B2 := B1.trans ((But.same s2).trans (But.put (o := .ins T.C_Machine dx (putF "_write" (.str z) (putF "_read" (.str r) []))) (s2 _ _ h1)))
      have h2 : (upd H2 m (.ins T.C_Machine dx (putF "_write" (.str z) (putF "_read" (.str r) [])))) m = some (.ins T.C_Machine dx (putF "_write" (.str z) (putF "_read" (.str r) []))) := upd_same
      generalize upd H2 m (.ins T.C_Machine dx (putF "_write" (.str z) (putF "_read" (.str r) []))) = G2 at B2 h2 ⊢
      have inr : inR (.int n) 0 64 = true := by
        show (decide (0 ≤ n) && decide (n ≤ 64)) = true
        rw [decide_eq_true n0, decide_eq_true n64]
        rfl
      refine ⟨_, rfl, .int n, 0, 64, rfl, shal_int, fun _ => ⟨_, rfl, m, _, dx, _, rfl, h2, T.cl_Machine, T.no_Machine__size, Nat.lt_of_le_of_lt (lenF (k := 1) (lenF (k := 0) (Nat.le_refl _))) (by decide), ?_⟩, fun no => by rw [inr] at no; cases no⟩
      have B3 := B2.trans (But.put (o := .ins T.C_Machine dx (putF "_size" (.int n) (putF "_write" (.str z) (putF "_read" (.str r) [])))) h2)
      have h3 : (upd G2 m (.ins T.C_Machine dx (putF "_size" (.int n) (putF "_write" (.str z) (putF "_read" (.str r) []))))) m = some (.ins T.C_Machine dx (putF "_size" (.int n) (putF "_write" (.str z) (putF "_read" (.str r) [])))) := upd_same
      generalize upd G2 m (.ins T.C_Machine dx (putF "_size" (.int n) (putF "_write" (.str z) (putF "_read" (.str r) [])))) = G3 at B3 h3 ⊢
      -- begins
      refine ⟨_, rfl, _, rfl, _, rfl, Str.ofString "begins", .ref b, z, n, rfl, az, B3.good good, .inl ⟨b, bx, be, rfl, RowAt.but B3 hm rb, lb, eb.but B3 hm, gb, fun by_ bd bl H4 pw1 me1 le1 en1 s4 nb hb => ?_⟩⟩
      refine ⟨_, rfl, m, _, dx, _, rfl, s4 _ _ h3, T.cl_Machine, T.no_Machine__begins, Nat.lt_of_le_of_lt (lenF (k := 2) (lenF (k := 1) (lenF (k := 0) (Nat.le_refl _)))) (by decide), ?_⟩
      have t4 : Told pimg EnS.PLt H4 bl be := ⟨by_, bd, hb, en1, pw1, me1, le1, by have := eb.len; omega⟩
      have P4 := But.put (o := .ins T.C_Machine dx (putF "_begins" (.ref bl) (putF "_size" (.int n) (putF "_write" (.str z) (putF "_read" (.str r) []))))) (s4 _ _ h3)
      have B4 := B3.trans ((But.same s4).trans P4)
      have t4' := t4.but P4 (s4 _ _ h3)
      have h4 : (upd H4 m (.ins T.C_Machine dx (putF "_begins" (.ref bl) (putF "_size" (.int n) (putF "_write" (.str z) (putF "_read" (.str r) [])))))) m = some (.ins T.C_Machine dx (putF "_begins" (.ref bl) (putF "_size" (.int n) (putF "_write" (.str z) (putF "_read" (.str r) []))))) := upd_same
      generalize upd H4 m (.ins T.C_Machine dx (putF "_begins" (.ref bl) (putF "_size" (.int n) (putF "_write" (.str z) (putF "_read" (.str r) []))))) = G4 at B4 h4 t4' ⊢
      exact ⟨_, rfl, _, rfl, _, rfl, _, rfl, av, r, z, n, rfl, ar, az, B4.good good, .inr ⟨f, fl.kt (fun _ s => ArcV.kt (Kt.ins B4 hm) s) (Kt.ins B4 hm), qe.raisedF B4⟩⟩
    | ends f =>
      obtain ⟨r, z, n, b, be, a, ae, ⟨rfl, rfl, rfl, ar, az, n0, n64⟩, rfl, ⟨bx, rb, lb, eb⟩, gb, rfl, ⟨ax, ra, la, ea⟩, ga, fl⟩ := hf
      -- read, write, size
      refine ⟨_, rfl, .str r, rfl, shal_str (Nat.le_trans ar.len4 (by decide)), good, fun _ H1 s1 => ⟨_, rfl, m, _, dx, _, rfl, s1 _ _ hm, T.cl_Machine, T.no_Machine__read, by show 0 < 1000; decide, ?_⟩, fun no => (no ⟨_, rfl, ar⟩).elim⟩
      have B1 : But m H (upd H1 m (.ins T.C_Machine dx (putF "_read" (.str r) []))) := (But.same s1).trans (But.put (s1 _ _ hm))
      have h1 : (upd H1 m (.ins T.C_Machine dx (putF "_read" (.str r) []))) m = some (.ins T.C_Machine dx (putF "_read" (.str r) [])) := upd_same
      generalize upd H1 m (.ins T.C_Machine dx (putF "_read" (.str r) [])) = G1 at B1 h1 ⊢
      refine ⟨_, rfl, .str z, rfl, shal_str (Nat.le_trans az.len4 (by decide)), B1.good good, fun _ H2 s2 => ⟨_, rfl, m, _, dx, _, rfl, s2 _ _ h1, T.cl_Machine, T.no_Machine__write, Nat.lt_of_le_of_lt (lenF (k := 0) (Nat.le_refl _)) (by decide), ?_⟩, fun no => (no ⟨_, rfl, az⟩).elim⟩
      have B2 := B1.trans ((But.same s2).trans (But.put (o := .ins T.C_Machine dx (putF "_write" (.str z) (putF "_read" (.str r) []))) (s2 _ _ h1)))
      have h2 : (upd H2 m (.ins T.C_Machine dx (putF "_write" (.str z) (putF "_read" (.str r) [])))) m = some (.ins T.C_Machine dx (putF "_write" (.str z) (putF "_read" (.str r) []))) := upd_same
      generalize upd H2 m (.ins T.C_Machine dx (putF "_write" (.str z) (putF "_read" (.str r) []))) = G2 at B2 h2 ⊢
      have inr : inR (.int n) 0 64 = true := by
        show (decide (0 ≤ n) && decide (n ≤ 64)) = true
        rw [decide_eq_true n0, decide_eq_true n64]
        rfl
      refine ⟨_, rfl, .int n, 0, 64, rfl, shal_int, fun _ => ⟨_, rfl, m, _, dx, _, rfl, h2, T.cl_Machine, T.no_Machine__size, Nat.lt_of_le_of_lt (lenF (k := 1) (lenF (k := 0) (Nat.le_refl _))) (by decide), ?_⟩, fun no => by rw [inr] at no; cases no⟩
      have B3 := B2.trans (But.put (o := .ins T.C_Machine dx (putF "_size" (.int n) (putF "_write" (.str z) (putF "_read" (.str r) [])))) h2)
      have h3 : (upd G2 m (.ins T.C_Machine dx (putF "_size" (.int n) (putF "_write" (.str z) (putF "_read" (.str r) []))))) m = some (.ins T.C_Machine dx (putF "_size" (.int n) (putF "_write" (.str z) (putF "_read" (.str r) [])))) := upd_same
      generalize upd G2 m (.ins T.C_Machine dx (putF "_size" (.int n) (putF "_write" (.str z) (putF "_read" (.str r) [])))) = G3 at B3 h3 ⊢
      -- begins
      refine ⟨_, rfl, _, rfl, _, rfl, Str.ofString "begins", .ref b, z, n, rfl, az, B3.good good, .inl ⟨b, bx, be, rfl, RowAt.but B3 hm rb, lb, eb.but B3 hm, gb, fun by_ bd bl H4 pw1 me1 le1 en1 s4 nb hb => ?_⟩⟩
      refine ⟨_, rfl, m, _, dx, _, rfl, s4 _ _ h3, T.cl_Machine, T.no_Machine__begins, Nat.lt_of_le_of_lt (lenF (k := 2) (lenF (k := 1) (lenF (k := 0) (Nat.le_refl _)))) (by decide), ?_⟩
      have t4 : Told pimg EnS.PLt H4 bl be := ⟨by_, bd, hb, en1, pw1, me1, le1, by have := eb.len; omega⟩
      have P4 := But.put (o := .ins T.C_Machine dx (putF "_begins" (.ref bl) (putF "_size" (.int n) (putF "_write" (.str z) (putF "_read" (.str r) []))))) (s4 _ _ h3)
      have B4 := B3.trans ((But.same s4).trans P4)
      have t4' := t4.but P4 (s4 _ _ h3)
      have h4 : (upd H4 m (.ins T.C_Machine dx (putF "_begins" (.ref bl) (putF "_size" (.int n) (putF "_write" (.str z) (putF "_read" (.str r) [])))))) m = some (.ins T.C_Machine dx (putF "_begins" (.ref bl) (putF "_size" (.int n) (putF "_write" (.str z) (putF "_read" (.str r) []))))) := upd_same
      generalize upd H4 m (.ins T.C_Machine dx (putF "_begins" (.ref bl) (putF "_size" (.int n) (putF "_write" (.str z) (putF "_read" (.str r) []))))) = G4 at B4 h4 t4' ⊢
      -- arcs
      refine ⟨_, rfl, _, rfl, _, rfl, _, rfl, .ref a, r, z, n, rfl, ar, az, B4.good good, .inl ⟨a, ax, ae, rfl, RowAt.but B4 hm ra, la, ea.but B4 hm, ga, fun ay ad al H5 pw2 me2 le2 en2 s5 na ha => ?_⟩⟩
      refine ⟨_, rfl, m, _, dx, _, rfl, s5 _ _ h4, T.cl_Machine, T.no_Machine__arcs, Nat.lt_of_le_of_lt (lenF (k := 3) (lenF (k := 2) (lenF (k := 1) (lenF (k := 0) (Nat.le_refl _))))) (by decide), ?_⟩
      have t5 : Told aimg EnS.ALt H5 al ae := ⟨ay, ad, ha, en2, pw2, me2, le2, by have := ea.len; omega⟩
      have P5 := But.put (o := .ins T.C_Machine dx (putF "_arcs" (.ref al) (putF "_begins" (.ref bl) (putF "_size" (.int n) (putF "_write" (.str z) (putF "_read" (.str r) [])))))) (s5 _ _ h4)
      have Q5 := (But.same s5).trans P5
      have B5 := B4.trans Q5
      have t5' := t5.but P5 (s5 _ _ h4)
      have t45 := t4'.but Q5 h4
      have nba : bl ≠ al := fun e => by
        obtain ⟨_, _, hl, _⟩ := t4'
        rw [e, na] at hl
        cases hl
      have h5 : (upd H5 m (.ins T.C_Machine dx (putF "_arcs" (.ref al) (putF "_begins" (.ref bl) (putF "_size" (.int n) (putF "_write" (.str z) (putF "_read" (.str r) []))))))) m = some (.ins T.C_Machine dx (putF "_arcs" (.ref al) (putF "_begins" (.ref bl) (putF "_size" (.int n) (putF "_write" (.str z) (putF "_read" (.str r) [])))))) := upd_same
      generalize upd H5 m (.ins T.C_Machine dx (putF "_arcs" (.ref al) (putF "_begins" (.ref bl) (putF "_size" (.int n) (putF "_write" (.str z) (putF "_read" (.str r) [])))))) = G5 at B5 h5 t5' t45 ⊢
      exact ⟨_, rfl, _, rfl, _, rfl, Str.ofString "ends", ev, z, n, rfl, az, B5.good good, .inr ⟨f, fl.kt (fun _ s => PairV.kt (Kt.ins B5 hm) s) (Kt.ins B5 hm), qe.raisedF B5⟩⟩

/-- any number that is not negative -/
def sp_mix (_ : PySem.W.Frag) : Sp := fun vs H Q _ => ∃ n t : Int, vs = [.int n, .int t] ∧ ∀ r : Int, 0 ≤ r → Q (.int r) H
theorem ok_mix (T : Txt K mg base) : FnOk P w K mg base CX0 (0 + 1) T.f_mix T.fd_mix ["number", "tick"] (sp_mix K) := by
  refine T.F_mix.ok sc_mix (fun vs H Q E h => ?_) (fun cdv A outer s H vs Q E hr h => ?_)
  · obtain ⟨n, t, rfl, _⟩ := h
    rfl
  · obtain ⟨n, t, rfl, q⟩ := h
    refine ⟨_, (pss_cons (ps_set (i := 2) sc_mix.nd rfl (.inl rfl) (pe_op op_mod (pe_callTy call_int1 (by rfl) T.z_int (by decide +kernel) (pa_cons (pe_op op_add (pe_op op_add (pe_op op_mul (pe_op op_mod (pe_callTy call_int1 (by rfl) T.z_int (by decide +kernel) (pa_cons (pv 0) pa_nil)) pe_int) pe_int) (pe_op op_mul (pv 1) pe_int)) pe_int) pa_nil)) pe_int))
      (pss_cons (ps_set (i := 3) sc_mix.nd rfl (.inl rfl) (pe_op op_mod (pe_callTy call_int1 (by rfl) T.z_int (by decide +kernel) (pa_cons (pe_op op_add (pe_op op_add (pe_op op_mul (pv 2) (pv 2)) (pe_op op_fdiv (pv 2) pe_int)) (pe_op op_mul (pv 1) pe_int)) pa_nil)) pe_int))
      (pss_one (ps_ret (pe_op op_mod (pe_callTy call_int1 (by rfl) T.z_int (by decide +kernel) (pa_cons (pe_op op_add (pe_op op_add (pe_op op_mul (pv 3) (pv 3)) (pe_op op_fdiv (pv 3) pe_int)) (pv 2)) pa_nil)) pe_int))))), ?_⟩
    have hm : (0 : Int) < 2147483647 := by decide
    have hk : (0 : Int) < 1000000007 := by decide
    have hj : (0 : Int) < 2147483629 := by decide
    have b1 : 0 ≤ (n % 2147483647 * 48271 + t * 69621 + 7919) % 2147483647 := Int.emod_nonneg _ (by decide)
    have b2 : (n % 2147483647 * 48271 + t * 69621 + 7919) % 2147483647 < 2147483647 := Int.emod_lt_of_pos _ hm
    have w1 : -(2 ^ 64 : Int) < (n % 2147483647 * 48271 + t * 69621 + 7919) % 2147483647 ∧ (n % 2147483647 * 48271 + t * 69621 + 7919) % 2147483647 < 2 ^ 64 := ⟨by omega, by omega⟩
    refine ⟨.int n, rfl, .inl ⟨_, rfl, _, _, rfl, rfl, hm, _, _, rfl, rfl, .inr ⟨by decide, by decide⟩, .int t, rfl, _, _, rfl, rfl, .inr ⟨by decide, by decide⟩, _, _, rfl, rfl, _, _, rfl, rfl, .inl ⟨_, rfl, _, _, rfl, rfl, hm, ?_⟩⟩⟩
    have x1 : ∃ one, one = (n % 2147483647 * 48271 + t * 69621 + 7919) % 2147483647 := ⟨_, rfl⟩
    obtain ⟨one, e1⟩ := x1
    rw [← e1] at w1
    have b3 : 0 ≤ (one * one + one / 127 + t * 3571) % 1000000007 := Int.emod_nonneg _ (by decide)
    have b4 : (one * one + one / 127 + t * 3571) % 1000000007 < 1000000007 := Int.emod_lt_of_pos _ hk
    have w2 : -(2 ^ 64 : Int) < (one * one + one / 127 + t * 3571) % 1000000007 ∧ (one * one + one / 127 + t * 3571) % 1000000007 < 2 ^ 64 := ⟨by omega, by omega⟩
    subst e1
    refine ⟨_, rfl, _, rfl, _, _, rfl, rfl, .inl w1, _, rfl, _, _, rfl, rfl, ⟨by decide, by decide⟩, _, _, rfl, rfl, .int t, rfl, _, _, rfl, rfl, .inr ⟨by decide, by decide⟩, _, _, rfl, rfl, .inl ⟨_, rfl, _, _, rfl, rfl, hk, ?_⟩⟩
    exact ⟨_, rfl, _, rfl, _, _, rfl, rfl, .inl w2, _, rfl, _, _, rfl, rfl, ⟨by decide, by decide⟩, _, _, rfl, rfl, _, rfl, _, _, rfl, rfl, .inl ⟨_, rfl, _, _, rfl, rfl, hj, q _ (Int.emod_nonneg _ (by decide))⟩⟩

/-- a number d from 0 on, below many, or 0; the store moves on, all else stands -/
def sp_take (_ : PySem.W.Frag) : Sp := fun vs H Q _ => ∃ (a ca : Addr) (many : Int), vs = [.ref a, .int many] ∧ Sto H a ca ∧ many < 1073741824 ∧
  ∀ (d : Int) (H' : Hp), 0 ≤ d → (d < many ∨ d = 0) → But a H H' → Sto H' a ca → Q (.int d) H'
theorem ok_take (T : Txt K mg base) : FnOk P w K mg base CX0 (1 + 1) T.f_take T.fd_take ["store", "many"] (sp_take K) := by
  refine T.F_take.ok sc_take (fun vs H Q E h => ?_) (fun cdv A outer s H vs Q E hr h => ?_)
  · obtain ⟨a, ca, m, rfl, _⟩ := h
    rfl
  · obtain ⟨a, ca, m, rfl, S, hm, q⟩ := h
    refine ⟨_, (pss_cons (ps_set (i := 1) sc_take.nd rfl (.inl rfl) (pe_callB (call_max2 rfl) (by rfl) T.z_max (by decide +kernel) (pa_cons pe_int (pa_cons (pv 1) pa_nil))))
      (pss_cons (ps_asg (pe_op op_add (pe_ix ix_list (pv 0) pe_int (fun _ _ => rfl)) pe_int) (pg_sub (pv 0) pe_int set_list))
      (pss_cons (ps_set (i := 2) sc_take.nd rfl (.inl rfl) (pe_ix ix_list (pv 0) pe_int (fun _ _ => rfl)))
      (pss_cons (ps_if (PW.pt (pw_and (pt_cmpR op_lt (pe_ix ix_list (pv 0) pe_int (fun _ _ => rfl)) pe_int (nomark _)) (pw_and1 (pt_cmpR op_lt (pe_ix ix_list (pv 0) pe_int (fun _ _ => rfl)) (pe_callB call_len_seq (by rfl) T.z_len PySem.boot_len (pa_cons (pv 2) pa_nil)) (nomark _))))) (pss_cons (ps_set (i := 3) sc_take.nd rfl (.inl rfl) (pe_callTy call_int1 (by rfl) T.z_int (by decide +kernel) (pa_cons (pe_ix ix_list (pv 2) (pe_ix ix_list (pv 0) pe_int (fun _ _ => rfl)) (fun _ _ => rfl)) pa_nil)))
      (pss_cons (ps_asg (pe_op op_add (pe_ix ix_list (pv 0) pe_int (fun _ _ => rfl)) pe_int) (pg_sub (pv 0) pe_int set_list))
      (pss_cons (ps_if (pt_cmpR op_lt (pv 3) (pe_op op_pow pe_int pe_int) (nomark _)) (pss_one (ps_ret (pe_op op_mod (pe_callTy call_int1 (by rfl) T.z_int (by decide +kernel) (pa_cons (pe_call (ok_mix T) (hr.mono (by first | decide | exact Nat.le_refl _)) (by rfl) T.g_mix T.F_mix.kp T.b_mix .nil pass0 (pa_cons (pv 3) (pa_cons (pe_ix ix_list (pv 0) pe_int (fun _ _ => rfl)) pa_nil))) pa_nil)) (pv 1)))) pss_nil)
      (pss_one (ps_asg (pe_callTy call_int1 (by rfl) T.z_int (by decide +kernel) (pa_cons (pv 3) pa_nil)) (pg_sub (pv 0) pe_int set_list)))))) pss_nil)
      (pss_cons (ps_if (pt_cmpR op_lt (pe_ix ix_list (pv 0) pe_int (fun _ _ => rfl)) pe_int (nomark _)) (pss_one (ps_ret (pe_op op_mod (pe_callTy call_int1 (by rfl) T.z_int (by decide +kernel) (pa_cons (pe_call (ok_mix T) (hr.mono (by first | decide | exact Nat.le_refl _)) (by rfl) T.g_mix T.F_mix.kp T.b_mix .nil pass0 (pa_cons (pe_ix ix_list (pv 0) pe_int (fun _ _ => rfl)) (pa_cons (pe_ix ix_list (pv 0) pe_int (fun _ _ => rfl)) pa_nil))) pa_nil)) (pv 1)))) pss_nil)
      (pss_cons (ps_set (i := 4) sc_take.nd rfl (.inl rfl) (pe_op op_mod (pe_callTy call_int1 (by rfl) T.z_int (by decide +kernel) (pa_cons (pe_ix ix_list (pv 0) pe_int (fun _ _ => rfl)) pa_nil)) (pv 1)))
      (pss_cons (ps_asg (pe_op op_fdiv (pe_callTy call_int1 (by rfl) T.z_int (by decide +kernel) (pa_cons (pe_ix ix_list (pv 0) pe_int (fun _ _ => rfl)) pa_nil)) (pv 1)) (pg_sub (pv 0) pe_int set_list))
      (pss_one (ps_ret (pv 4)))))))))), ?_⟩
    obtain ⟨ns, i, b, t, sd, h1, h2, h3, h4⟩ := S
    -- many = max(1, many)
    refine ⟨.int m, rfl, _, _, rfl, ?_⟩
    have hM : ∃ M : Int, (if m > 1 then m else 1) = M ∧ 1 ≤ M ∧ M < 1073741824 ∧ ∀ d, d < M → 0 ≤ d → (d < m ∨ d = 0) := by
      by_cases g : m > 1
      · exact ⟨m, by rw [if_pos g], by omega, hm, fun d z _ => .inl z⟩
      · exact ⟨1, by rw [if_neg g], by omega, by decide, fun d z1 z2 => .inr (by omega)⟩
    obtain ⟨M, eM, hM1, hM2, hMd⟩ := hM
    rw [eM]
    have hM0 : 0 < M := by omega
    -- store[3] = store[3] + 1
    refine ⟨.ref a, rfl, _, _, _, _, rfl, rfl, .inl (.inl h1), rfl, _, _, rfl, rfl, .ref a, rfl, a, _, 3, 3, rfl, rfl, h1, rfl, ?_⟩
    -- cells = store[0]
    have h1' : (upd H a (.lst [.ref ca, .int i, .int b, .int (t + 1), .int sd])) a = some (.lst [.ref ca, .int i, .int b, .int (t + 1), .int sd]) := upd_same
    have h2' : (upd H a (.lst [.ref ca, .int i, .int b, .int (t + 1), .int sd])) ca = some (.lst (ns.map V.int)) := by
      rw [upd_ne h4]
      exact h2
    have hB : But a H (upd H a (.lst [.ref ca, .int i, .int b, .int (t + 1), .int sd])) := But.put h1
    have tail : ∀ (Ht : Hp) (bt : Int) (it tt : Int), Ht a = some (.lst [.ref ca, .int it, .int bt, .int tt, .int sd]) → Ht ca = some (.lst (ns.map V.int)) → 0 ≤ it → But a H Ht →
      ∀ r : Int, ∀ (d : Int) (H' : Hp), d = r % M → (H' = Ht ∨ ∃ b' : Int, H' = upd Ht a (.lst [.ref ca, .int it, .int b', .int tt, .int sd])) → Q (.int d) H' := by
      intro Ht bt it tt e1 e2 e3 eB r d H' ed eH
      subst ed
      have d0 : 0 ≤ r % M := Int.emod_nonneg _ (by omega)
      have d1 : r % M < M := Int.emod_lt_of_pos _ hM0
      rcases eH with rfl | ⟨b', rfl⟩
      · exact q _ _ d0 (hMd _ d1 d0) eB ⟨ns, it, bt, tt, sd, e1, e2, e3, h4⟩
      · refine q _ _ d0 (hMd _ d1 d0) (eB.trans (But.put e1)) ⟨ns, it, b', tt, sd, upd_same, ?_, e3, h4⟩
        rw [upd_ne h4]
        exact e2
    -- the tests
    refine ⟨.ref a, rfl, _, _, _, _, rfl, rfl, .inl (.inl h1'), rfl, .ref a, rfl, _, _, _, _, rfl, rfl, .inl (.inl h1'), rfl, _, _, rfl, rfl, _, rfl, ite2 (fun g1 => ?_) (fun g1 => ?_)⟩
    · refine ⟨.ref a, rfl, _, _, _, _, rfl, rfl, .inl (.inl h1'), rfl, .ref ca, rfl, _, _, rfl, .inl (.inl (.inl h2')), _, _, rfl, rfl, _, rfl, ite2 (fun g2 => ?_) (fun g2 => ?_)⟩
      · obtain ⟨n, hn⟩ := ints_at h3 (of_decide_eq_true g2)
        -- cell = int(cells[store[1]])
        refine ⟨.ref ca, rfl, .ref a, rfl, _, _, _, _, rfl, rfl, .inl (.inl h1'), rfl, _, _, _, _, rfl, rfl, .inl (.inl h2'), hn, .inl ⟨_, rfl, ?_⟩⟩
        -- store[1] = store[1] + 1
        refine ⟨.ref a, rfl, _, _, _, _, rfl, rfl, .inl (.inl h1'), rfl, _, _, rfl, rfl, .ref a, rfl, a, _, 1, 1, rfl, rfl, h1', rfl, ?_⟩
        have k1 : (upd (upd H a (.lst [.ref ca, .int i, .int b, .int (t + 1), .int sd])) a (.lst [.ref ca, .int (i + 1), .int b, .int (t + 1), .int sd])) a = some (.lst [.ref ca, .int (i + 1), .int b, .int (t + 1), .int sd]) := upd_same
        have k2 : (upd (upd H a (.lst [.ref ca, .int i, .int b, .int (t + 1), .int sd])) a (.lst [.ref ca, .int (i + 1), .int b, .int (t + 1), .int sd])) ca = some (.lst (ns.map V.int)) := by
          rw [upd_ne h4]
          exact h2'
        have kB := hB.trans (But.put (a := a) (H := (upd H a (.lst [.ref ca, .int i, .int b, .int (t + 1), .int sd]))) (o := (.lst [.ref ca, .int (i + 1), .int b, .int (t + 1), .int sd])) h1')
        have k3 : 0 ≤ i + 1 := by omega
        -- if cell < 10 ** 18
        refine ⟨_, rfl, _, _, rfl, rfl, ⟨by decide, by decide, by decide⟩, _, _, rfl, rfl, _, rfl, ite2 (fun g3 => ?_) (fun g3 => ?_)⟩
        · exact ⟨_, rfl, .ref a, rfl, _, _, _, _, rfl, rfl, .inl (.inl k1), rfl, _, _, rfl, fun r hr0 => .inl ⟨_, rfl, _, rfl, _, _, rfl, rfl, hM0, tail _ _ _ _ k1 k2 k3 kB r _ _ rfl (.inl rfl)⟩⟩
        · -- store[2] = int(cell)
          refine ⟨_, rfl, .inl ⟨_, rfl, .ref a, rfl, a, _, 2, 2, rfl, rfl, k1, rfl, ?_⟩⟩
          have m1 : (upd (upd (upd H a (.lst [.ref ca, .int i, .int b, .int (t + 1), .int sd])) a (.lst [.ref ca, .int (i + 1), .int b, .int (t + 1), .int sd])) a (.lst [.ref ca, .int (i + 1), .int n, .int (t + 1), .int sd])) a = some (.lst [.ref ca, .int (i + 1), .int n, .int (t + 1), .int sd]) := upd_same
          have m2 : (upd (upd (upd H a (.lst [.ref ca, .int i, .int b, .int (t + 1), .int sd])) a (.lst [.ref ca, .int (i + 1), .int b, .int (t + 1), .int sd])) a (.lst [.ref ca, .int (i + 1), .int n, .int (t + 1), .int sd])) ca = some (.lst (ns.map V.int)) := by
            rw [upd_ne h4]
            exact k2
          have mB := kB.trans (But.put (a := a) (H := (upd (upd H a (.lst [.ref ca, .int i, .int b, .int (t + 1), .int sd])) a (.lst [.ref ca, .int (i + 1), .int b, .int (t + 1), .int sd]))) (o := (.lst [.ref ca, .int (i + 1), .int n, .int (t + 1), .int sd])) k1)
          refine ⟨.ref a, rfl, _, _, _, _, rfl, rfl, .inl (.inl m1), rfl, _, _, rfl, rfl, _, rfl, ite2 (fun g4 => ?_) (fun g4 => ?_)⟩
          · exact ⟨.ref a, rfl, _, _, _, _, rfl, rfl, .inl (.inl m1), rfl, .ref a, rfl, _, _, _, _, rfl, rfl, .inl (.inl m1), rfl, _, _, rfl, fun r hr0 => .inl ⟨_, rfl, _, rfl, _, _, rfl, rfl, hM0, tail _ _ _ _ m1 m2 k3 mB r _ _ rfl (.inl rfl)⟩⟩
          · exact ⟨.ref a, rfl, _, _, _, _, rfl, rfl, .inl (.inl m1), rfl, .inl ⟨_, rfl, _, rfl, _, _, rfl, rfl, hM0, .ref a, rfl, _, _, _, _, rfl, rfl, .inl (.inl m1), rfl, .inl ⟨_, rfl, _, rfl, _, _, rfl, rfl, ⟨hM0, hM2⟩, .ref a, rfl, a, _, 2, 2, rfl, rfl, m1, rfl, _, rfl, tail _ _ _ _ m1 m2 k3 mB _ _ _ rfl (.inr ⟨_, rfl⟩)⟩⟩⟩
      · refine ⟨.ref a, rfl, _, _, _, _, rfl, rfl, .inl (.inl h1'), rfl, _, _, rfl, rfl, _, rfl, ite2 (fun g4 => ?_) (fun g4 => ?_)⟩
        · exact ⟨.ref a, rfl, _, _, _, _, rfl, rfl, .inl (.inl h1'), rfl, .ref a, rfl, _, _, _, _, rfl, rfl, .inl (.inl h1'), rfl, _, _, rfl, fun r hr0 => .inl ⟨_, rfl, _, rfl, _, _, rfl, rfl, hM0, tail _ _ _ _ h1' h2' h3 hB r _ _ rfl (.inl rfl)⟩⟩
        · exact ⟨.ref a, rfl, _, _, _, _, rfl, rfl, .inl (.inl h1'), rfl, .inl ⟨_, rfl, _, rfl, _, _, rfl, rfl, hM0, .ref a, rfl, _, _, _, _, rfl, rfl, .inl (.inl h1'), rfl, .inl ⟨_, rfl, _, rfl, _, _, rfl, rfl, ⟨hM0, hM2⟩, .ref a, rfl, a, _, 2, 2, rfl, rfl, h1', rfl, _, rfl, tail _ _ _ _ h1' h2' h3 hB _ _ _ rfl (.inr ⟨_, rfl⟩)⟩⟩⟩
    · refine ⟨.ref a, rfl, _, _, _, _, rfl, rfl, .inl (.inl h1'), rfl, _, _, rfl, rfl, _, rfl, ite2 (fun g4 => ?_) (fun g4 => ?_)⟩
      · exact ⟨.ref a, rfl, _, _, _, _, rfl, rfl, .inl (.inl h1'), rfl, .ref a, rfl, _, _, _, _, rfl, rfl, .inl (.inl h1'), rfl, _, _, rfl, fun r hr0 => .inl ⟨_, rfl, _, rfl, _, _, rfl, rfl, hM0, tail _ _ _ _ h1' h2' h3 hB r _ _ rfl (.inl rfl)⟩⟩
      · exact ⟨.ref a, rfl, _, _, _, _, rfl, rfl, .inl (.inl h1'), rfl, .inl ⟨_, rfl, _, rfl, _, _, rfl, rfl, hM0, .ref a, rfl, _, _, _, _, rfl, rfl, .inl (.inl h1'), rfl, .inl ⟨_, rfl, _, rfl, _, _, rfl, rfl, ⟨hM0, hM2⟩, .ref a, rfl, a, _, 2, 2, rfl, rfl, h1', rfl, _, rfl, tail _ _ _ _ h1' h2' h3 hB _ _ _ rfl (.inr ⟨_, rfl⟩)⟩⟩⟩

def sp_between (_ : PySem.W.Frag) : Sp := fun vs H Q _ => ∃ (a ca : Addr) (lo hi : Int), vs = [.ref a, .int lo, .int hi] ∧ Sto H a ca ∧ hi - lo < 1000000000 ∧
  ∀ (r : Int) (H' : Hp), lo ≤ r → (r ≤ hi ∨ r = lo) → But a H H' → Sto H' a ca → Q (.int r) H'
theorem ok_between (T : Txt K mg base) : FnOk P w K mg base CX0 (2 + 1) T.f_between T.fd_between ["store", "low", "high"] (sp_between K) := by
  refine T.F_between.ok sc_between (fun vs H Q E h => ?_) (fun cdv A outer s H vs Q E hr h => ?_)
  · obtain ⟨a, ca, lo, hi, rfl, _⟩ := h
    rfl
  · obtain ⟨a, ca, lo, hi, rfl, S, hd, q⟩ := h
    refine ⟨_, (pss_cons (ps_set (i := 3) sc_between.nd rfl (.inl rfl) (pe_call (ok_take T) (hr.mono (by first | decide | exact Nat.le_refl _)) (by rfl) T.g_take T.F_take.kp T.b_take .nil pass0 (pa_cons (pv 0) (pa_cons pe_int pa_nil))))
      (pss_cons (ps_if (PW.pt (pw_or (pt_cmpR op_eq (pv 3) pe_int (nomark _)) (pw_or1 (pt_cmpR op_lt (pv 2) (pv 1) (nomark _))))) (pss_one (ps_ret (pv 1))) pss_nil)
      (pss_cons (ps_if (pt_cmpR op_eq (pv 3) pe_int (nomark _)) (pss_one (ps_ret (pv 2))) pss_nil)
      (pss_one (ps_ret (pe_op op_add (pv 1) (pe_call (ok_take T) (hr.mono (by first | decide | exact Nat.le_refl _)) (by rfl) T.g_take T.F_take.kp T.b_take .nil pass0 (pa_cons (pv 0) (pa_cons (pe_op op_add (pe_op op_sub (pv 2) (pv 1)) pe_int) pa_nil))))))))), ?_⟩
    refine ⟨_, rfl, a, ca, 6, rfl, S, by decide, fun d H1 d0 d1 B1 S1 => ?_⟩
    refine ⟨_, rfl, rfl, _, rfl, ite2 (fun g1 => ?_) (fun g1 => ?_)⟩
    · exact ⟨_, rfl, q _ _ (Int.le_refl _) (.inr rfl) B1 S1⟩
    · refine ⟨_, rfl, _, rfl, _, _, rfl, rfl, _, rfl, ite2 (fun g2 => ?_) (fun g2 => ?_)⟩
      · exact ⟨_, rfl, q _ _ (Int.le_refl _) (.inr rfl) B1 S1⟩
      · have g2' : lo ≤ hi := by
          have := of_decide_eq_false (Bool.not_eq_true _ ▸ g2 : decide (hi < lo) = false)
          omega
        refine ⟨_, rfl, rfl, _, rfl, ite2 (fun g3 => ?_) (fun g3 => ?_)⟩
        · exact ⟨_, rfl, q _ _ g2' (.inl (Int.le_refl _)) B1 S1⟩
        · refine ⟨_, rfl, _, rfl, _, rfl, _, rfl, _, _, rfl, rfl, _, _, rfl, rfl, a, ca, _, rfl, S1, by show hi - lo + 1 < _; omega, fun e H2 e0 e1 B2 S2 => ?_⟩
          have e1' : e < hi - lo + 1 ∨ e = 0 := e1
          exact ⟨_, _, rfl, rfl, q _ _ (by omega) (by omega) (B1.trans B2) S2⟩

/-- a sign of the text, an item of the list; the store moves on, all else stands -/
def sp_pick (_ : PySem.W.Frag) : Sp := fun vs H Q _ => ∃ (a ca : Addr), Sto H a ca ∧ ((∃ z : Str, vs = [.ref a, .str z] ∧ 0 < z.length ∧ z.length ≤ 1000000 ∧
    ∀ (c : Nat) (H' : Hp), c ∈ cs z → But a H H' → Sto H' a ca → Q (.str ⟨#[c]⟩) H') ∨
  (∃ (l : Addr) (xs : List V), vs = [.ref a, .ref l] ∧ l ≠ a ∧ H l = some (.lst xs) ∧ 0 < xs.length ∧ xs.length ≤ 1000000 ∧
    ∀ (x : V) (H' : Hp), x ∈ xs → But a H H' → Sto H' a ca → Q x H'))
theorem ok_pick (T : Txt K mg base) : FnOk P w K mg base CX0 (2 + 1) T.f_pick T.fd_pick ["store", "row"] (sp_pick K) := by
  refine T.F_pick.ok sc_pick (fun vs H Q E h => ?_) (fun cdv A outer s H vs Q E hr h => ?_)
  · obtain ⟨a, ca, _, ⟨z, rfl, _⟩ | ⟨l, xs, rfl, _⟩⟩ := h <;> rfl
  · obtain ⟨a, ca, S, h⟩ := h
    refine ⟨_, (pss_one (ps_ret (pe_ix ix_seq (pv 1) (pe_call (ok_take T) (hr.mono (by first | decide | exact Nat.le_refl _)) (by rfl) T.g_take T.F_take.kp T.b_take .nil pass0 (pa_cons (pv 0) (pa_cons (pe_callB call_len (by rfl) T.z_len PySem.boot_len (pa_cons (pv 1) pa_nil)) pa_nil))) (fun _ _ => rfl)))), ?_⟩
    rcases h with ⟨z, rfl, h0, h1, q⟩ | ⟨l, xs, rfl, hla, hl, h0, h1, q⟩
    · refine ⟨_, rfl, _, rfl, _, rfl, _, _, rfl, ⟨small_text h1, rfl⟩, a, ca, _, rfl, S, by omega, fun d H' d0 d1 hB S' => ?_⟩
      obtain ⟨j, rfl⟩ := Int.eq_ofNat_of_zero_le d0
      have hj : j < (cs z).length := by
        rw [cs_len]
        omega
      exact .inr (.inr ⟨z, _, (cs z)[j], rfl, rfl, small_text h1, atI_nat (List.getElem?_eq_getElem hj), q _ _ (List.getElem_mem hj) hB S'⟩)
    · refine ⟨_, rfl, _, rfl, _, rfl, _, _, rfl, .inl ⟨_, .inl (.inl hl), rfl⟩, a, ca, _, rfl, S, by omega, fun d H' d0 d1 hB S' => ?_⟩
      obtain ⟨j, rfl⟩ := Int.eq_ofNat_of_zero_le d0
      have hj : j < xs.length := by omega
      exact .inl ⟨l, xs, _, xs[j], rfl, rfl, .inl (.inl (hB _ _ hla hl)), atI_nat (List.getElem?_eq_getElem hj), q _ _ (List.getElem_mem hj) hB S'⟩

/-- a text of letters of z, of at most n signs -/
def sp_word (_ : PySem.W.Frag) : Sp := fun vs H Q _ => ∃ (a ca : Addr) (z : Str) (n : Int), vs = [.ref a, .str z, .int n] ∧ Sto H a ca ∧ 0 < z.length ∧ z.length ≤ 1000000 ∧ n ≤ 100000 ∧
  ∀ (v : Str) (H' : Hp), Over z v → (v.length : Int) ≤ (if n < 0 then 0 else n) → But a H H' → Sto H' a ca → Q (.str v) H'
theorem ok_word (T : Txt K mg base) : FnOk P w K mg base CX0 (3 + 1) T.f_word T.fd_word ["store", "letters", "limit"] (sp_word K) := by
  refine T.F_word.ok sc_word (fun vs H Q E h => ?_) (fun cdv A outer s H vs Q E hr h => ?_)
  · obtain ⟨a, ca, z, n, rfl, _⟩ := h
    rfl
  · obtain ⟨a, ca, z, n, rfl, S, hz0, hz1, hn, q⟩ := h
    refine ⟨_, (pss_cons (ps_set (i := 3) sc_word.nd rfl (.inl rfl) (pe_call (ok_take T) (hr.mono (by first | decide | exact Nat.le_refl _)) (by rfl) T.g_take T.F_take.kp T.b_take .nil pass0 (pa_cons (pv 0) (pa_cons pe_int pa_nil))))
      (pss_cons (ps_if (PW.pt (pw_or (pt_cmpR op_eq (pv 3) pe_int (nomark _)) (pw_or1 (pt_cmpR op_lt (pv 2) pe_int (nomark _))))) (pss_one (ps_ret pe_str)) pss_nil)
      (pss_cons (ps_if (pt_cmpR op_eq (pv 3) pe_int (nomark _)) (pss_one (ps_ret (pe_op op_rep_str (pe_call (ok_pick T) (hr.mono (by first | decide | exact Nat.le_refl _)) (by rfl) T.g_pick T.F_pick.kp T.b_pick .nil pass0 (pa_cons (pv 0) (pa_cons (pv 1) pa_nil))) (pv 2)))) pss_nil)
      (pss_cons (ps_set (i := 4) sc_word.nd rfl (.inl rfl) (pv 2))
      (pss_cons (ps_if (pt_cmpR op_gt (pv 3) pe_int (nomark _)) (pss_one (ps_set (i := 4) sc_word.nd rfl (.inl rfl) (pe_call (ok_take T) (hr.mono (by first | decide | exact Nat.le_refl _)) (by rfl) T.g_take T.F_take.kp T.b_take .nil pass0 (pa_cons (pv 0) (pa_cons (pe_op op_add (pv 2) pe_int) pa_nil))))) pss_nil)
      (pss_cons (ps_if (pt_cmpR op_eq (pv 3) pe_int (nomark _)) (pss_one (ps_ret (pe_op op_rep_str (pe_call (ok_pick T) (hr.mono (by first | decide | exact Nat.le_refl _)) (by rfl) T.g_pick T.F_pick.kp T.b_pick .nil pass0 (pa_cons (pv 0) (pa_cons (pv 1) pa_nil))) (pv 4)))) pss_nil)
      (pss_one (ps_ret (pe_join pe_str (pe_lc (own := [("k", 5)]) (g := gName 5) rfl sc_word.nd (pi_range1 (by rfl) T.z_range (pa_cons (pv 4) pa_nil)) (blkOk_by (N := ["store", "letters", "limit", "draw", "size", "k"]) (sc := defScope s_word) (by decide +kernel)) (fun _ _ _ _ _ => pg_name (i := 5) sc_word.nd rfl (Or.inl rfl)) (fun _ _ _ _ _ => pts_nil) (fun _ _ _ _ _ => (pe_call (ok_pick T) (hr.mono (by first | decide | exact Nat.le_refl _)) (by rfl) T.g_pick T.F_pick.kp T.b_pick .nil pass0 (pa_cons (pv 0) (pa_cons (pv 1) pa_nil)))))))))))))), ?_⟩
    refine ⟨_, rfl, a, ca, 9, rfl, S, by decide, fun d H1 d0 d1 B1 S1 => ?_⟩
    have h0 : ((0 : Nat) : Int) ≤ (if n < 0 then 0 else n) := by split <;> omega
    refine ⟨_, rfl, rfl, _, rfl, ite2 (fun g1 => ?_) (fun g1 => ?_)⟩
    · exact q _ _ Over.empty h0 B1 S1
    · refine ⟨_, rfl, _, _, rfl, rfl, _, rfl, ite2 (fun g2 => ?_) (fun g2 => ?_)⟩
      · exact q _ _ Over.empty h0 B1 S1
      · have g2' : 1 ≤ n := by
          have := of_decide_eq_false (Bool.not_eq_true _ ▸ g2 : decide (n < 1) = false)
          omega
        have hn0 : (if n < 0 then (0 : Int) else n) = n := if_neg (by omega)
        rw [hn0] at q
        have one_ok : ∀ (c : Nat) (k : Int) (H' : Hp), c ∈ cs z → 0 ≤ k → k ≤ n → But a H H' → Sto H' a ca → Q (.str (Txt.mul ⟨#[c]⟩ k)) H' := fun c k H' hc k0 k1 B S => by
          refine q _ _ (Over.one hc).mul ?_ B S
          rw [length_mul]
          show ((1 * k.toNat : Nat) : Int) ≤ n
          omega
        refine ⟨_, rfl, rfl, _, rfl, ite2 (fun g3 => ?_) (fun g3 => ?_)⟩
        · refine ⟨_, rfl, _, rfl, a, ca, S1, .inl ⟨z, rfl, hz0, hz1, fun c H2 hc B2 S2 => ⟨_, rfl, _, n, rfl, rfl, by show 1 ≤ 16; decide, by omega, by omega, one_ok c n H2 hc (by omega) (Int.le_refl _) (B1.trans B2) S2⟩⟩⟩
        · refine ⟨_, rfl, _, rfl, _, _, rfl, rfl, _, rfl, ite2 (fun g4 => ?_) (fun g4 => ?_)⟩
          · refine ⟨_, rfl, _, rfl, _, _, rfl, rfl, a, ca, _, rfl, S1, by show n + 1 < 1073741824; omega, fun k H2 k0 k1 B2 S2 => ?_⟩
            have k2 : k < n + 1 ∨ k = 0 := k1
            have kn : k ≤ n := by omega
            refine ⟨_, rfl, rfl, _, rfl, ite2 (fun g5 => ?_) (fun g5 => ?_)⟩
            · exact ⟨_, rfl, _, rfl, a, ca, S2, .inl ⟨z, rfl, hz0, hz1, fun c H3 hc B3 S3 => ⟨_, rfl, _, k, rfl, rfl, by show 1 ≤ 16; decide, by omega, by omega, one_ok c k H3 hc k0 kn ((B1.trans B2).trans B3) S3⟩⟩⟩
            · refine ⟨⟨_, rfl⟩, _, rfl, k, rfl, by show -(2 ^ 62 : Int) ≤ k; omega, by show k < 2 ^ 62; omega, fun D hD => ?_⟩
              have hDa : D ≠ a := (S2.ne hD).1
              refine lc_range (lo := 0) (n := (k).toNat) (fun i H' => ∃ ys : List Str, H' D = some (.lst (ys.map V.str)) ∧ ys.length = i ∧ (∀ y ∈ ys, ∃ c ∈ cs z, y = ⟨#[c]⟩) ∧ But a H H' ∧ Sto H' a ca) ?_ ?_ ?_
              · exact ⟨[], upd_same, rfl, fun y m => absurd m List.not_mem_nil, (B1.trans B2).trans (But.new hD), S2.new hD⟩
              · rintro i H' hi ⟨ys, h1, h2, h3, B, S'⟩
                refine ⟨rfl, ?_⟩
                refine ⟨_, rfl, _, rfl, a, ca, S', .inl ⟨z, rfl, hz0, hz1, fun c H3 hc B3 S3 => ?_⟩⟩
                refine ⟨_, B3 _ _ hDa h1, ?_, ys ++ [⟨#[c]⟩], ?_, ?_, ?_, ?_, ?_⟩
                · rw [List.length_map, h2]
                  have hi' : i < (k).toNat := hi
                  exact Nat.lt_of_lt_of_le (by omega : i < 1000000) (by decide)
                · rw [upd_same, List.map_append]
                  rfl
                · rw [List.length_append, h2]
                  rfl
                · intro y m
                  rcases List.mem_append.mp m with m | m
                  · exact h3 y m
                  · exact ⟨c, hc, List.mem_singleton.mp m⟩
                · exact (B1.trans B2).grown hD (B.trans B3) (B3 _ _ hDa h1)
                · exact S3.put (S2.ne hD)
              · rintro H' ⟨ys, h1, h2, h3, B, S'⟩
                have sum1 : (ys.map (·.length)).sum = ys.length := by
                  clear h1 h2
                  induction ys with
                  | nil => rfl
                  | cons y r ih =>
                    obtain ⟨c, _, rfl⟩ := h3 y List.mem_cons_self
                    rw [List.map_cons, List.sum_cons, ih fun x m => h3 x (List.mem_cons_of_mem _ m), List.length_cons]
                    show 1 + r.length = r.length + 1
                    omega
                refine ⟨_, _, ys, rfl, rfl, .inl (.inl (.inl h1)), ?_, q _ _ ?_ ?_ B S'⟩
                · rw [sum1]
                  show ys.length + ys.length * 0 ≤ 16777216
                  omega
                · intro c m
                  rw [cs_join0, List.mem_flatten] at m
                  obtain ⟨l, hl, hc⟩ := m
                  obtain ⟨y, hy, rfl⟩ := List.mem_map.mp hl
                  obtain ⟨c', hc', rfl⟩ := h3 y hy
                  rw [cs_one] at hc
                  rw [List.mem_singleton.mp hc]
                  exact hc'
                · have e : (Txt.join (Str.ofString "") ys).length = ys.length := by
                    rw [← cs_len, cs_join0, List.length_flatten, List.map_map]
                    rw [← sum1]
                    congr 1
                  rw [e]
                  omega
          · have nn : 0 ≤ n := by omega
            refine ⟨_, rfl, rfl, _, rfl, ite2 (fun g5 => ?_) (fun g5 => ?_)⟩
            · exact ⟨_, rfl, _, rfl, a, ca, S1, .inl ⟨z, rfl, hz0, hz1, fun c H3 hc B3 S3 => ⟨_, rfl, _, n, rfl, rfl, by show 1 ≤ 16; decide, by omega, by omega, one_ok c n H3 hc nn (Int.le_refl _) (B1.trans B3) S3⟩⟩⟩
            · refine ⟨⟨_, rfl⟩, _, rfl, n, rfl, by show -(2 ^ 62 : Int) ≤ n; omega, by show n < 2 ^ 62; omega, fun D hD => ?_⟩
              have hDa : D ≠ a := (S1.ne hD).1
              refine lc_range (lo := 0) (n := (n).toNat) (fun i H' => ∃ ys : List Str, H' D = some (.lst (ys.map V.str)) ∧ ys.length = i ∧ (∀ y ∈ ys, ∃ c ∈ cs z, y = ⟨#[c]⟩) ∧ But a H H' ∧ Sto H' a ca) ?_ ?_ ?_
              · exact ⟨[], upd_same, rfl, fun y m => absurd m List.not_mem_nil, B1.trans (But.new hD), S1.new hD⟩
              · rintro i H' hi ⟨ys, h1, h2, h3, B, S'⟩
                refine ⟨rfl, ?_⟩
                refine ⟨_, rfl, _, rfl, a, ca, S', .inl ⟨z, rfl, hz0, hz1, fun c H3 hc B3 S3 => ?_⟩⟩
                refine ⟨_, B3 _ _ hDa h1, ?_, ys ++ [⟨#[c]⟩], ?_, ?_, ?_, ?_, ?_⟩
                · rw [List.length_map, h2]
                  have hi' : i < (n).toNat := hi
                  exact Nat.lt_of_lt_of_le (by omega : i < 1000000) (by decide)
                · rw [upd_same, List.map_append]
                  rfl
                · rw [List.length_append, h2]
                  rfl
                · intro y m
                  rcases List.mem_append.mp m with m | m
                  · exact h3 y m
                  · exact ⟨c, hc, List.mem_singleton.mp m⟩
                · exact B1.grown hD (B.trans B3) (B3 _ _ hDa h1)
                · exact S3.put (S1.ne hD)
              · rintro H' ⟨ys, h1, h2, h3, B, S'⟩
                have sum1 : (ys.map (·.length)).sum = ys.length := by
                  clear h1 h2
                  induction ys with
                  | nil => rfl
                  | cons y r ih =>
                    obtain ⟨c, _, rfl⟩ := h3 y List.mem_cons_self
                    rw [List.map_cons, List.sum_cons, ih fun x m => h3 x (List.mem_cons_of_mem _ m), List.length_cons]
                    show 1 + r.length = r.length + 1
                    omega
                refine ⟨_, _, ys, rfl, rfl, .inl (.inl (.inl h1)), ?_, q _ _ ?_ ?_ B S'⟩
                · rw [sum1]
                  show ys.length + ys.length * 0 ≤ 16777216
                  omega
                · intro c m
                  rw [cs_join0, List.mem_flatten] at m
                  obtain ⟨l, hl, hc⟩ := m
                  obtain ⟨y, hy, rfl⟩ := List.mem_map.mp hl
                  obtain ⟨c', hc', rfl⟩ := h3 y hy
                  rw [cs_one] at hc
                  rw [List.mem_singleton.mp hc]
                  exact hc'
                · have e : (Txt.join (Str.ofString "") ys).length = ys.length := by
                    rw [← cs_len, cs_join0, List.length_flatten, List.map_map]
                    rw [← sum1]
                    congr 1
                  rw [e]
                  omega

def sp_arc (_ : PySem.W.Frag) : Sp := fun vs H Q _ => ∃ (a ca : Addr) (r z : Str) (n lo : Int), vs = [.ref a, .str r, .str z, .int n, .int lo] ∧ Sto H a ca ∧ IsAlpha r ∧ IsAlpha z ∧ 0 ≤ n ∧ n ≤ 1000 ∧ 0 ≤ lo ∧ lo ≤ 100 ∧
  ∀ (t : Addr) (e : EnS.Arc) (H' : Hp), EA r z n e → But a H H' → Sto H' a ca → H t = none → t ≠ a → t ≠ ca → H' t = some (.tup (aimg e)) → Q (.ref t) H'
theorem ok_arc (T : Txt K mg base) : FnOk P w K mg base CX0 (4 + 1) T.f_arc T.fd_arc ["store", "read", "write", "size", "longest"] (sp_arc K) := by
  refine T.F_arc.ok sc_arc (fun vs H Q E h => ?_) (fun cdv A outer s H vs Q E hr h => ?_)
  · obtain ⟨a, ca, r, z, n, lo, rfl, _⟩ := h
    rfl
  · obtain ⟨a, ca, r, z, n, lo, rfl, S, ar, az, n1, n2, l0, l1, q⟩ := h
    refine ⟨_, (pss_cons (ps_set (i := 5) sc_arc.nd rfl (.inl rfl) (pe_call (ok_pick T) (hr.mono (by first | decide | exact Nat.le_refl _)) (by rfl) T.g_pick T.F_pick.kp T.b_pick .nil pass0 (pa_cons (pv 0) (pa_cons (pv 1) pa_nil))))
      (pss_cons (ps_set (i := 6) sc_arc.nd rfl (.inl rfl) (pe_call (ok_word T) (hr.mono (by first | decide | exact Nat.le_refl _)) (by rfl) T.g_word T.F_word.kp T.b_word .nil pass0 (pa_cons (pv 0) (pa_cons (pv 2) (pa_cons (pv 4) pa_nil)))))
      (pss_one (ps_ret (pe_tup (pa_cons (pe_call (ok_take T) (hr.mono (by first | decide | exact Nat.le_refl _)) (by rfl) T.g_take T.F_take.kp T.b_take .nil pass0 (pa_cons (pv 0) (pa_cons (pv 3) pa_nil))) (pa_cons (pv 5) (pa_cons (pv 6) (pa_cons (pe_call (ok_take T) (hr.mono (by first | decide | exact Nat.le_refl _)) (by rfl) T.g_take T.F_take.kp T.b_take .nil pass0 (pa_cons (pv 0) (pa_cons (pv 3) pa_nil))) pa_nil))))))))), ?_⟩
    refine ⟨_, rfl, _, rfl, a, ca, S, .inl ⟨r, rfl, ar.len1, ar.small, fun c H1 hc B1 S1 => ?_⟩⟩
    refine ⟨_, rfl, _, rfl, _, rfl, a, ca, z, lo, rfl, S1, az.len1, az.small, by omega, fun v H2 ov lv B2 S2 => ?_⟩
    refine ⟨_, rfl, _, rfl, a, ca, n, rfl, S2, by omega, fun i H3 i0 i1 B3 S3 => ⟨_, rfl, _, rfl, _, rfl, _, rfl, a, ca, n, rfl, S3, by omega, fun j H4 j0 j1 B4 S4 => ?_⟩⟩
    refine ⟨by show 4 ≤ sizeLine; decide, fun p np => ?_⟩
    have npa := S4.ne np
    have B := ((B1.trans B2).trans B3).trans B4
    have l1' : (v.length : Int) ≤ lo := by
      rw [if_neg (by omega)] at lv
      exact lv
    refine q p (i, ⟨#[c]⟩, v, j) _ ⟨i0, by show i ≤ 1000; omega, fun h => (by show i ≤ n - 1; omega), rfl, fun d hd => ?_, ov, by show v.length ≤ 100; omega, j0, by show j ≤ 1000; omega, fun h => (by show j ≤ n - 1; omega)⟩ (B.trans (But.new np)) (S4.new np) (B.free np npa.1) npa.1 npa.2 upd_same
    rw [show d = c from List.mem_singleton.mp hd]
    exact hc

def sp_good_entry [Tabl] (_ : PySem.W.Frag) : Sp := fun vs H Q _ => ∃ (a ca p : Addr) (at_ : Int) (r z : Str) (n : Int) (xs : List V), vs = [.ref a, .ref p, .int at_] ∧ Sto H a ca ∧ p ≠ a ∧ H p = some (.lst (.str r :: .str z :: .int n :: xs)) ∧ IsAlpha r ∧ IsAlpha z ∧ 0 ≤ n ∧ n ≤ 64 ∧
  (at_ = 4 → ∀ (t : Addr) (e : EnS.Arc) (H' : Hp), EA r z n e → But a H H' → Sto H' a ca → H t = none → t ≠ a → t ≠ ca → H' t = some (.tup (aimg e)) → Q (.ref t) H') ∧
  (at_ ≠ 4 → ∀ (t : Addr) (e : Int × Str) (H' : Hp), EP z n e → e.2.length ≤ 2 → But a H H' → Sto H' a ca → H t = none → t ≠ a → t ≠ ca → H' t = some (.tup (pimg e)) → Q (.ref t) H')
theorem ok_good_entry (T : Txt K mg base) : FnOk P w K mg base CX0 (5 + 1) T.f_good_entry T.fd_good_entry ["store", "parts", "at"] (sp_good_entry K) := by
  refine T.F_good_entry.ok sc_good_entry (fun vs H Q E h => ?_) (fun cdv A outer s H vs Q E hr h => ?_)
  · obtain ⟨a, ca, p, at_, r, z, n, xs, rfl, _⟩ := h
    rfl
  · obtain ⟨a, ca, p, at_, r, z, n, xs, rfl, S, pa, hp, ar, az, n0, n64, q1, q2⟩ := h
    refine ⟨_, (pss_cons (ps_if (pt_cmpR op_eq (pv 2) pe_int (nomark _)) (pss_one (ps_ret (pe_call (ok_arc T) (hr.mono (by first | decide | exact Nat.le_refl _)) (by rfl) T.g_arc T.F_arc.kp T.b_arc .nil pass0 (pa_cons (pv 0) (pa_cons (pe_ix ix_list (pv 1) pe_int (fun _ _ => rfl)) (pa_cons (pe_ix ix_list (pv 1) pe_int (fun _ _ => rfl)) (pa_cons (pe_ix ix_list (pv 1) pe_int (fun _ _ => rfl)) (pa_cons pe_int pa_nil)))))))) pss_nil)
      (pss_one (ps_ret (pe_tup (pa_cons (pe_call (ok_take T) (hr.mono (by first | decide | exact Nat.le_refl _)) (by rfl) T.g_take T.F_take.kp T.b_take .nil pass0 (pa_cons (pv 0) (pa_cons (pe_ix ix_list (pv 1) pe_int (fun _ _ => rfl)) pa_nil))) (pa_cons (pe_call (ok_word T) (hr.mono (by first | decide | exact Nat.le_refl _)) (by rfl) T.g_word T.F_word.kp T.b_word .nil pass0 (pa_cons (pv 0) (pa_cons (pe_ix ix_list (pv 1) pe_int (fun _ _ => rfl)) (pa_cons pe_int pa_nil)))) pa_nil)))))), ?_⟩
    refine ⟨_, rfl, rfl, _, rfl, ite2 (fun g => ?_) (fun g => ?_)⟩
    · have e4 : at_ = 4 := by
        have := of_decide_eq_true g
        injection this
      exact ⟨_, rfl, _, rfl, _, _, _, _, rfl, rfl, .inl (.inl hp), (atI_nat (xs := V.str r :: V.str z :: V.int n :: xs) (j := 0) rfl), _, rfl, _, _, _, _, rfl, rfl, .inl (.inl hp), (atI_nat (xs := V.str r :: V.str z :: V.int n :: xs) (j := 1) rfl), _, rfl, _, _, _, _, rfl, rfl, .inl (.inl hp), (atI_nat (xs := V.str r :: V.str z :: V.int n :: xs) (j := 2) rfl), a, ca, r, z, n, 2, rfl, S, ar, az, n0, by omega, by decide, by decide, q1 e4⟩
    · have e4 : at_ ≠ 4 := fun e => g (decide_eq_true (by rw [e]))
      refine ⟨_, rfl, _, rfl, _, _, _, _, rfl, rfl, .inl (.inl hp), (atI_nat (xs := _ :: _ :: V.int n :: xs) (j := 2) rfl), a, ca, n, rfl, S, by omega, fun i H1 i0 i1 B1 S1 => ?_⟩
      have hp1 := B1 _ _ pa hp
      refine ⟨_, rfl, _, rfl, _, _, _, _, rfl, rfl, .inl (.inl hp1), (atI_nat (xs := V.str r :: V.str z :: V.int n :: xs) (j := 1) rfl), a, ca, z, 2, rfl, S1, az.len1, az.small, by decide, fun v H2 ov lv B2 S2 => ⟨by show 2 ≤ sizeLine; decide, fun t nt => ?_⟩⟩
      have lv : (v.length : Int) ≤ 2 := lv
      have x := S2.ne nt
      have B := B1.trans B2
      exact q2 e4 t (i, v) _ ⟨i0, by show i ≤ 1000; omega, fun h => (by show i ≤ n - 1; omega), ov, by show v.length ≤ 400; omega⟩ (by show v.length ≤ 2; omega) (B.trans (But.new nt)) (S2.new nt) (B.free nt x.1) x.1 x.2 upd_same

/-- an alphabet; the store moves on, all else stands -/
def sp_letters (_ : PySem.W.Frag) : Sp := fun vs H Q _ => ∃ (a ca : Addr) (n : Int), vs = [.ref a, .int n] ∧ Sto H a ca ∧
  ∀ (z : Str) (H' : Hp), IsAlpha z → But a H H' → Sto H' a ca → Q (.str z) H'
theorem ok_letters (T : Txt K mg base) : FnOk P w K mg base CX0 (2 + 1) T.f_letters T.fd_letters ["store", "limit"] (sp_letters K) := by
  refine T.F_letters.ok sc_letters (fun vs H Q E h => ?_) (fun cdv A outer s H vs Q E hr h => ?_)
  · obtain ⟨a, ca, n, rfl, _⟩ := h
    rfl
  · obtain ⟨a, ca, n, rfl, S, q⟩ := h
    refine ⟨_, (pss_cons (ps_set (i := 2) sc_letters.nd rfl (.inl rfl) (pe_op op_add pe_int (pe_call (ok_take T) (hr.mono (by first | decide | exact Nat.le_refl _)) (by rfl) T.g_take T.F_take.kp T.b_take .nil pass0 (pa_cons (pv 0) (pa_cons (pe_callB (call_max2 rfl) (by rfl) T.z_max (by decide +kernel) (pa_cons pe_int (pa_cons (pe_callB (call_min2 rfl) (by rfl) T.z_min (by decide +kernel) (pa_cons pe_int (pa_cons (pv 1) pa_nil))) pa_nil))) pa_nil)))))
      (pss_cons (ps_set (i := 3) sc_letters.nd rfl (.inl rfl) pe_str)
      (pss_cons (ps_set (i := 4) sc_letters.nd rfl (.inl rfl) (pe_call (ok_take T) (hr.mono (by first | decide | exact Nat.le_refl _)) (by rfl) T.g_take T.F_take.kp T.b_take .nil pass0 (pa_cons (pv 0) (pa_cons pe_int pa_nil))))
      (pss_cons (ps_if (pt_cmpR op_eq (pv 4) pe_int (nomark _)) (pss_one (ps_ret (pe_slice sl_str (pv 3) po_none (po_some (pv 2))))) pss_nil)
      (pss_cons (ps_if (pt_cmpR op_eq (pv 4) pe_int (nomark _)) (pss_one (ps_ret (pe_slice sl_str (pv 3) (po_some (pe_op op_sub pe_int (pv 2))) po_none))) pss_nil)
      (pss_cons (ps_set (i := 5) sc_letters.nd rfl (.inl rfl) (pe_un un_neg pe_int))
      (pss_cons (ps_set (i := 6) sc_letters.nd rfl (.inl rfl) pe_str)
      (pss_cons (ps_for PassesOwn.never rfl (pi_range1 (by rfl) T.z_range (pa_cons (pv 2) pa_nil)) (pg_name (i := 7) sc_letters.nd rfl (.inl rfl)) (pss_cons (ps_set (i := 5) sc_letters.nd rfl (.inl rfl) (pe_op op_add (pe_op op_add (pv 5) pe_int) (pe_call (ok_take T) (hr.mono (by first | decide | exact Nat.le_refl _)) (by rfl) T.g_take T.F_take.kp T.b_take .nil pass0 (pa_cons (pv 0) (pa_cons (pe_op op_sub (pe_op op_add (pe_op op_sub pe_int (pv 2)) (pv 7)) (pv 5)) pa_nil)))))
      (pss_one (ps_set (i := 6) sc_letters.nd rfl (.inl rfl) (pe_op op_add_str (pv 6) (pe_ix ix_str (pv 3) (pv 5) (fun _ _ => rfl)))))))
      (pss_one (ps_ret (pv 6))))))))))), ?_⟩
    have hm : (if (if n < 4 then n else 4) > 1 then (if n < 4 then n else 4) else 1) ≤ 4 ∧ 1 ≤ (if (if n < 4 then n else 4) > 1 then (if n < 4 then n else 4) else 1) := by
      split <;> split <;> omega
    refine ⟨_, rfl, _, rfl, _, _, rfl, _, _, rfl, a, ca, _, rfl, S, Int.lt_of_le_of_lt hm.1 (by decide), fun d H1 d0 d1 B1 S1 => ?_⟩
    have d4 : d < 4 := by
      have e1 : d < (if (if n < 4 then n else 4) > 1 then (if n < 4 then n else 4) else 1) ∨ d = 0 := d1
      omega
    obtain ⟨j, rfl⟩ := Int.eq_ofNat_of_zero_le d0
    have hj : j < 4 := by omega
    refine ⟨_, _, rfl, rfl, _, rfl, a, ca, 4, rfl, S1, by decide, fun e H2 e0 e1 B2 S2 => ?_⟩
    have B12 := B1.trans B2
    refine ⟨_, rfl, rfl, _, rfl, ite2 (fun g1 => ?_) (fun g1 => ?_)⟩
    · -- every[:size]
      refine ⟨_, rfl, _, rfl, _, rfl, abc, rfl, small_text (by rw [len_abc]; decide), ?_⟩
      have e : (1 : Int) + (j : Int) = ((1 + j : Nat) : Int) := by omega
      show Q (.str (cutS abc none (some (1 + (j : Int))))) H2
      rw [e]
      exact q _ _ (abc_upto (by omega) (by omega)) B12 S2
    · refine ⟨_, rfl, rfl, _, rfl, ite2 (fun g2 => ?_) (fun g2 => ?_)⟩
      · -- every[26 - size:]
        refine ⟨_, rfl, _, rfl, _, _, rfl, rfl, _, rfl, abc, rfl, small_text (by rw [len_abc]; decide), ?_⟩
        have e : (26 : Int) - (1 + (j : Int)) = ((25 - j : Nat) : Int) := by omega
        show Q (.str (cutS abc (some (26 - (1 + (j : Int)))) none)) H2
        rw [e]
        exact q _ _ (abc_from (by omega) (by omega)) B12 S2
      · refine ⟨_, rfl, _, rfl, _, rfl, by show -(2 ^ 62 : Int) ≤ 1 + (j : Int); omega, by show 1 + (j : Int) < 2 ^ 62; omega, ?_⟩
        have ej : ((1 : Int) + (j : Int)).toNat = j + 1 := by omega
        refine for_range (lo := 0) (n := ((1 : Int) + (j : Int)).toNat) (fun i σ H' => ∃ (at_ : Int) (v : Str) (y : Option V), σ = [some (.ref a), some (.int n), some (.int (1 + (j : Int))), some (.str abc), some (.int e), some (.int at_), some (.str v), y] ∧
          But a H H' ∧ Sto H' a ca ∧ -1 ≤ at_ ∧ at_ ≤ 25 - (1 + (j : Int)) + (i : Int) ∧ v.length = i ∧ (cs v).Pairwise (· < ·) ∧ ∀ c ∈ cs v, 97 ≤ c ∧ (c : Int) ≤ 97 + at_) ?_ ?_ ?_
        · refine ⟨-1, Str.ofString "", none, rfl, B12, S2, by decide, by omega, by decide +kernel, ?_, fun c m => ?_⟩
          · rw [cs_empty]
            exact .nil
          · rw [cs_empty] at m
            exact absurd m List.not_mem_nil
        · rintro i σ H3 hi ⟨at_, v, y, rfl, B3, S3, a0, a1, hl, hp, hc⟩
          have hi' : i < j + 1 := by rw [← ej]; exact hi
          refine ⟨_, rfl, _, _, rfl, rfl, _, rfl, _, rfl, _, _, rfl, rfl, _, rfl, _, _, rfl, rfl, _, rfl, _, _, rfl, rfl, a, ca, _, rfl, S3, by show 26 - (1 + (j : Int)) + (0 + (i : Int)) - at_ < 1073741824; omega, fun f H4 f0 f1 B4 S4 => ?_⟩
          have f1' : f < 26 - (1 + (j : Int)) + (0 + (i : Int)) - at_ ∨ f = 0 := f1
          have k0 : 0 ≤ at_ + 1 + f := by omega
          have k1 : at_ + 1 + f ≤ 25 - (1 + (j : Int)) + ((i : Int) + 1) := by omega
          obtain ⟨g, eg⟩ := Int.eq_ofNat_of_zero_le k0
          have hg : g < 26 := by omega
          have hat : atI (cs abc) (at_ + 1 + f) = some (97 + g) := by
            rw [eg, cs_abc]
            refine atI_nat ?_
            rw [List.getElem?_range' hg]
            simp
          refine ⟨_, _, rfl, rfl, _, rfl, _, rfl, _, rfl, abc, _, _, rfl, rfl, small_text (by rw [len_abc]; decide), hat, _, _, rfl, rfl, ?_, ?_⟩
          · refine small_text ?_
            show v.length + 1 ≤ 1000000
            omega
          · refine ⟨at_ + 1 + f, v ++ ⟨#[97 + g]⟩, _, rfl, B3.trans B4, S4, by omega, by omega, ?_, ?_, fun c m => ?_⟩
            · rw [length_app, hl]
              rfl
            · rw [cs_app, cs_one]
              refine List.pairwise_append.mpr ⟨hp, List.pairwise_singleton _ _, fun x hx y hy => ?_⟩
              rw [List.mem_singleton.mp hy]
              have := hc x hx
              omega
            · rw [cs_app, cs_one] at m
              rcases List.mem_append.mp m with m | m
              · have := hc c m
                omega
              · rw [List.mem_singleton.mp m]
                omega
        · rintro σ H3 ⟨at_, v, y, rfl, B3, S3, a0, a1, hl, hp, hc⟩
          refine ⟨_, rfl, q v H3 ⟨hp, fun c m => ?_, ?_, ?_⟩ B3 S3⟩
          · have := hc c m
            omega
          · omega
          · omega

/-- a text of letters of z, of n signs -/
def sp_long_word (_ : PySem.W.Frag) : Sp := fun vs H Q _ => ∃ (a ca : Addr) (z : Str) (n : Int), vs = [.ref a, .str z, .int n] ∧ Sto H a ca ∧ 0 < z.length ∧ z.length ≤ 1000000 ∧ -100000 ≤ n ∧ n ≤ 100000 ∧
  ∀ (v : Str) (H' : Hp), Over z v → (v.length : Int) = (if n < 1 then 0 else n) → But a H H' → Sto H' a ca → Q (.str v) H'
theorem ok_long_word (T : Txt K mg base) : FnOk P w K mg base CX0 (4 + 1) T.f_long_word T.fd_long_word ["store", "letters", "size"] (sp_long_word K) := by
  refine T.F_long_word.ok sc_long_word (fun vs H Q E h => ?_) (fun cdv A outer s H vs Q E hr h => ?_)
  · obtain ⟨a, ca, z, n, rfl, _⟩ := h
    rfl
  · obtain ⟨a, ca, z, n, rfl, S, hz0, hz1, hn0, hn, q⟩ := h
    refine ⟨_, (pss_cons (ps_set (i := 3) sc_long_word.nd rfl (.inl rfl) (pe_op op_add_str (pe_call (ok_pick T) (hr.mono (by first | decide | exact Nat.le_refl _)) (by rfl) T.g_pick T.F_pick.kp T.b_pick .nil pass0 (pa_cons (pv 0) (pa_cons (pv 1) pa_nil))) (pe_call (ok_word T) (hr.mono (by first | decide | exact Nat.le_refl _)) (by rfl) T.g_word T.F_word.kp T.b_word .nil pass0 (pa_cons (pv 0) (pa_cons (pv 1) (pa_cons pe_int pa_nil))))))
      (pss_cons (ps_set (i := 4) sc_long_word.nd rfl (.inl rfl) (pe_slice sl_str (pe_op op_rep_str (pv 3) (pv 2)) po_none (po_some (pv 2))))
      (pss_cons (ps_if (pt_cmpR op_lt (pv 2) pe_int (nomark _)) (pss_one (ps_ret pe_str)) pss_nil)
      (pss_cons (ps_set (i := 5) sc_long_word.nd rfl (.inl rfl) (pe_call (ok_between T) (hr.mono (by first | decide | exact Nat.le_refl _)) (by rfl) T.g_between T.F_between.kp T.b_between .nil pass0 (pa_cons (pv 0) (pa_cons pe_int (pa_cons (pe_op op_sub (pv 2) pe_int) pa_nil)))))
      (pss_one (ps_ret (pe_op op_add_str (pe_op op_add_str (pe_slice sl_str (pv 4) po_none (po_some (pv 5))) (pe_call (ok_pick T) (hr.mono (by first | decide | exact Nat.le_refl _)) (by rfl) T.g_pick T.F_pick.kp T.b_pick .nil pass0 (pa_cons (pv 0) (pa_cons (pv 1) pa_nil)))) (pe_slice sl_str (pv 4) (po_some (pe_op op_add (pv 5) pe_int)) po_none)))))))), ?_⟩
    refine ⟨_, rfl, _, rfl, a, ca, S, .inl ⟨z, rfl, hz0, hz1, fun c H1 hc B1 S1 => ?_⟩⟩
    refine ⟨_, rfl, _, rfl, a, ca, z, 4, rfl, S1, hz0, hz1, by decide, fun u H2 hu lu B2 S2 => ?_⟩
    have lu' : u.length ≤ 4 := by
      have : ((u.length : Nat) : Int) ≤ 4 := lu
      omega
    have lp : ((⟨#[c]⟩ : Str) ++ u).length = 1 + u.length := length_app _ _
    have hp : Over z ((⟨#[c]⟩ : Str) ++ u) := (Over.one hc).app hu
    refine ⟨_, _, rfl, rfl, small_text (by show 1 + u.length ≤ 1000000; omega), ?_⟩
    refine ⟨_, rfl, _, rfl, _, n, rfl, rfl, by rw [lp]; omega, by omega, by omega, _, rfl, _, rfl, _, rfl, ?_, ?_⟩
    · rw [length_mul, lp]
      refine small_text ?_
      have : (1 + u.length) * n.toNat ≤ 5 * n.toNat := Nat.mul_le_mul_right _ (by omega)
      omega
    · refine ⟨_, rfl, _, _, rfl, rfl, _, rfl, ite2 (fun g1 => ?_) (fun g1 => ?_)⟩
      · have g1' : n < 1 := of_decide_eq_true g1
        refine q _ _ Over.empty ?_ (B1.trans B2) S2
        rw [if_pos g1']
        rfl
      · have g1' : ¬ n < 1 := fun z => g1 (decide_eq_true z)
        obtain ⟨k, rfl⟩ := Int.eq_ofNat_of_zero_le (by omega : 0 ≤ n)
        rw [if_neg g1'] at q
        have lw : (cutS (Txt.mul ((⟨#[c]⟩ : Str) ++ u) (k : Int)) none (some (k : Int))).length = k := by
          rw [← cs_len, cs_upto, List.length_take, cs_len, length_mul, lp]
          have : 1 * k ≤ (1 + u.length) * (k : Int).toNat := Nat.mul_le_mul (by omega) (by omega)
          omega
        have ow : Over z (cutS (Txt.mul ((⟨#[c]⟩ : Str) ++ u) (k : Int)) none (some (k : Int))) := hp.mul.cut
        refine ⟨_, rfl, _, rfl, _, _, rfl, rfl, a, ca, 0, _, rfl, S2, by show (k : Int) - 1 - 0 < 1000000000; omega, fun r H3 r0 r1 B3 S3 => ?_⟩
        have r1' : r ≤ (k : Int) - 1 ∨ r = 0 := r1
        obtain ⟨j, rfl⟩ := Int.eq_ofNat_of_zero_le r0
        refine ⟨_, rfl, _, rfl, _, rfl, _, rfl, small_text (by rw [lw]; omega), _, rfl, _, rfl, a, ca, S3, .inl ⟨z, rfl, hz0, hz1, fun d H4 hd B4 S4 => ?_⟩⟩
        have l1 : (cutS (cutS (Txt.mul ((⟨#[c]⟩ : Str) ++ u) (k : Int)) none (some (k : Int))) none (some (j : Int))).length = j := by
          rw [← cs_len, cs_upto, List.length_take, cs_len, lw]
          omega
        have l2 : (cutS (cutS (Txt.mul ((⟨#[c]⟩ : Str) ++ u) (k : Int)) none (some (k : Int))) (some ((j : Int) + 1)) none).length = k - (j + 1) := by
          rw [← cs_len, show ((j : Int) + 1) = ((j + 1 : Nat) : Int) from rfl, cs_from, List.length_drop, cs_len, lw]
        refine ⟨_, _, rfl, rfl, small_text ?_, _, rfl, _, rfl, _, _, rfl, rfl, _, rfl, _, rfl, small_text (by rw [lw]; omega), _, _, rfl, rfl, small_text ?_, ?_⟩
        · show _ + 1 ≤ 1000000
          rw [l1]
          omega
        · rw [length_app, l1, l2]
          show j + 1 + (k - (j + 1)) ≤ 1000000
          omega
        · refine q _ _ ((ow.cut.app (Over.one hd)).app ow.cut) ?_ (((B1.trans B2).trans B3).trans B4) S4
          rw [length_app, length_app, l1, l2]
          show ((j + 1 + (k - (j + 1)) : Nat) : Int) = (k : Int)
          omega

def sp_good_parts [Tabl] (_ : PySem.W.Frag) : Sp := fun vs H Q _ => ∃ (a ca : Addr), vs = [.ref a] ∧ Sto H a ca ∧
  ∀ (p : Addr) (r z : Str) (n : Nat) (be : List (Int × Str)) (ae : List EnS.Arc) (ee : List (Int × Str)) (b c e : Addr) (bx ax ex : List V) (H' : Hp), PD a H' p r z n be ae ee b c e bx ax ex → But a H H' → Sto H' a ca → Q (.ref p) H'
theorem ok_good_parts (T : Txt K mg base) : FnOk P w K mg base CX0 (6 + 1) T.f_good_parts T.fd_good_parts ["store"] (sp_good_parts K) := by
  refine T.F_good_parts.ok sc_good_parts (fun vs H Q E h => ?_) (fun cdv A outer s H vs Q E hr h => ?_)
  · obtain ⟨a, ca, rfl, _⟩ := h
    rfl
  · obtain ⟨a, ca, rfl, S, q⟩ := h
    refine ⟨_, (pss_cons (ps_set (i := 1) sc_good_parts.nd rfl (.inl rfl) (pe_lst (pa_cons (pe_call (ok_letters T) (hr.mono (by first | decide | exact Nat.le_refl _)) (by rfl) T.g_letters T.F_letters.kp T.b_letters .nil pass0 (pa_cons (pv 0) (pa_cons pe_int pa_nil))) (pa_cons (pe_call (ok_letters T) (hr.mono (by first | decide | exact Nat.le_refl _)) (by rfl) T.g_letters T.F_letters.kp T.b_letters .nil pass0 (pa_cons (pv 0) (pa_cons pe_int pa_nil))) (pa_cons (pe_call (ok_take T) (hr.mono (by first | decide | exact Nat.le_refl _)) (by rfl) T.g_take T.F_take.kp T.b_take .nil pass0 (pa_cons (pv 0) (pa_cons pe_int pa_nil))) (pa_cons (pe_lst pa_nil) (pa_cons (pe_lst pa_nil) (pa_cons (pe_lst pa_nil) pa_nil))))))))
      (C8.pss_cut (ps_if (pt_cmpR op_eq (pe_call (ok_take T) (hr.mono (by first | decide | exact Nat.le_refl _)) (by rfl) T.g_take T.F_take.kp T.b_take .nil pass0 (pa_cons (pv 0) (pa_cons pe_int pa_nil))) pe_int (nomark _)) (pss_one (ps_asg pe_int (pg_sub (pv 1) pe_int set_list))) pss_nil)
      (pss_cons (ps_if (pt_cmpR op_eq (pe_ix ix_list (pv 1) pe_int (fun _ _ => rfl)) pe_int (nomark _)) (pss_one (ps_ret (pv 1))) pss_nil)
      (C8.pss_cut (ps_for PassesOwn.never rfl (pi_range2 (by rfl) T.z_range (pa_cons pe_int (pa_cons pe_int pa_nil))) (pg_name (i := 2) sc_good_parts.nd rfl (.inl rfl)) (C8.pss_cut (ps_for PassesOwn.never rfl (pi_range1 (by rfl) T.z_range (pa_cons (pe_call (ok_between T) (hr.mono (by first | decide | exact Nat.le_refl _)) (by rfl) T.g_between T.F_between.kp T.b_between .nil pass0 (pa_cons (pv 0) (pa_cons pe_int (pa_cons pe_int pa_nil)))) pa_nil)) (pg_name (i := 3) sc_good_parts.nd rfl (.inl rfl)) (pss_one (ps_expr (pe_bm PySem.F.plainAttrs_list PySem.F.slot_list_append PySem.F.type_list_append mt_append (pe_ix ix_list (pv 1) (pv 2) (fun _ _ => rfl)) (pa_cons (pe_call (ok_good_entry T) (hr.mono (by first | decide | exact Nat.le_refl _)) (by rfl) T.g_good_entry T.F_good_entry.kp T.b_good_entry .nil pass0 (pa_cons (pv 0) (pa_cons (pv 1) (pa_cons (pv 2) pa_nil)))) pa_nil)))))
      (pss_one (ps_if (pt_cmpR op_eq (pe_call (ok_take T) (hr.mono (by first | decide | exact Nat.le_refl _)) (by rfl) T.g_take T.F_take.kp T.b_take .nil pass0 (pa_cons (pv 0) (pa_cons pe_int pa_nil))) pe_int (nomark _)) (pss_one (ps_asg (pe_op op_rep (pe_lst (pa_cons (pe_call (ok_good_entry T) (hr.mono (by first | decide | exact Nat.le_refl _)) (by rfl) T.g_good_entry T.F_good_entry.kp T.b_good_entry .nil pass0 (pa_cons (pv 0) (pa_cons (pv 1) (pa_cons (pv 2) pa_nil)))) pa_nil)) pe_int) (pg_sub (pv 1) (pv 2) set_list))) pss_nil))))
      (C8.pss_cut (ps_if (pt_cmpR op_eq (pe_call (ok_take T) (hr.mono (by first | decide | exact Nat.le_refl _)) (by rfl) T.g_take T.F_take.kp T.b_take .nil pass0 (pa_cons (pv 0) (pa_cons pe_int pa_nil))) pe_int (nomark _)) (pss_one (ps_asg (pe_op op_cat (pe_lst (pa_cons (pe_tup (pa_cons (pe_op op_sub (pe_ix ix_list (pv 1) pe_int (fun _ _ => rfl)) pe_int) (pa_cons (pe_call (ok_long_word T) (hr.mono (by first | decide | exact Nat.le_refl _)) (by rfl) T.g_long_word T.F_long_word.kp T.b_long_word .nil pass0 (pa_cons (pv 0) (pa_cons (pe_ix ix_list (pv 1) pe_int (fun _ _ => rfl)) (pa_cons pe_int pa_nil)))) pa_nil))) pa_nil)) (pe_slice sl_list (pe_ix ix_list (pv 1) pe_int (fun _ _ => rfl)) po_none (po_some pe_int))) (pg_sub (pv 1) pe_int set_list))) pss_nil)
      (pss_one (ps_ret (pv 1)))))))), ?_⟩
    refine ⟨_, rfl, a, ca, 3, rfl, S, fun r H1 ar B1 S1 => ⟨_, rfl, a, ca, 3, rfl, S1, fun z H2 az B2 S2 => ⟨_, rfl, a, ca, 5, rfl, S2, by decide, fun n H3 n0 n5 B3 S3 => ⟨by show 0 ≤ sizeLine; decide, fun q3 m3 => ?_⟩⟩⟩⟩
    have B3 := (B1.trans B2).trans B3
    have x3 := S3.ne m3
    have k3 := same_new (o := .lst []) m3
    have h3 : (upd H3 q3 (.lst [])) q3 = some (.lst []) := upd_same
    have S4 := S3.new (o := .lst []) m3
    generalize upd H3 q3 (.lst []) = H4 at k3 h3 S4 ⊢
    refine ⟨by show 0 ≤ sizeLine; decide, fun q4 m4 => ?_⟩
    have x4 := S4.ne m4
    have k4 := same_new (o := .lst []) m4
    have h4 : (upd H4 q4 (.lst [])) q4 = some (.lst []) := upd_same
    have S5 := S4.new (o := .lst []) m4
    have d34 : q3 ≠ q4 := fun e => by rw [e, m4] at h3; cases h3
    have h3 := k4 _ _ h3
    generalize upd H4 q4 (.lst []) = H5 at k4 h3 h4 S5 ⊢
    refine ⟨by show 0 ≤ sizeLine; decide, fun q5 m5 => ?_⟩
    have x5 := S5.ne m5
    have k5 := same_new (o := .lst []) m5
    have h5 : (upd H5 q5 (.lst [])) q5 = some (.lst []) := upd_same
    have S6 := S5.new (o := .lst []) m5
    have d35 : q3 ≠ q5 := fun e => by rw [e, m5] at h3; cases h3
    have d45 : q4 ≠ q5 := fun e => by rw [e, m5] at h4; cases h4
    have h3 := k5 _ _ h3
    have h4 := k5 _ _ h4
    generalize upd H5 q5 (.lst []) = H6 at k5 h3 h4 h5 S6 ⊢
    refine ⟨by show 6 ≤ sizeLine; decide, fun p np => ?_⟩
    have xp := S6.ne np
    have k6 := same_new (o := .lst [.str r, .str z, .int n, .ref q3, .ref q4, .ref q5]) np
    have hp : (upd H6 p (.lst [.str r, .str z, .int n, .ref q3, .ref q4, .ref q5])) p = some (.lst [.str r, .str z, .int n, .ref q3, .ref q4, .ref q5]) := upd_same
    have S7 := S6.new (o := .lst [.str r, .str z, .int n, .ref q3, .ref q4, .ref q5]) np
    have d3p : q3 ≠ p := fun e => by rw [e, np] at h3; cases h3
    have d4p : q4 ≠ p := fun e => by rw [e, np] at h4; cases h4
    have d5p : q5 ≠ p := fun e => by rw [e, np] at h5; cases h5
    have h3 := k6 _ _ h3
    have h4 := k6 _ _ h4
    have h5 := k6 _ _ h5
    have B6 := ((B3.trans (But.same k3)).trans (But.same k4)).trans (But.same k5)
    have npH := B6.free np xp.1
    have n3H := B3.free m3 x3.1
    have n4H := (B3.trans (But.same k3)).free m4 x4.1
    have n5H := ((B3.trans (But.same k3)).trans (But.same k4)).free m5 x5.1
    have B7 := B6.trans (But.same k6)
    generalize upd H6 p (.lst [.str r, .str z, .int n, .ref q3, .ref q4, .ref q5]) = H7 at k6 hp h3 h4 h5 S7 B7 ⊢
    clear B1 B2 B3 B6 S1 S2 S3 S4 S5 S6 k3 k4 k5 k6
    refine ⟨fun σ' H' => ∃ n' : Int, 0 ≤ n' ∧ n' ≤ 64 ∧ σ' = [some (.ref a), some (.ref p), none, none] ∧ But a H H' ∧ Sto H' a ca ∧ H' p = some (.lst [.str r, .str z, .int n', .ref q3, .ref q4, .ref q5]) ∧ H' q3 = some (.lst []) ∧ H' q4 = some (.lst []) ∧ H' q5 = some (.lst []), ?_, ?_⟩
    · refine ⟨_, rfl, a, ca, 8, rfl, S7, by decide, fun d H8 _ _ B8 S8 => ⟨rfl, _, rfl, ite2 (fun _ => ?_) (fun _ => ?_)⟩⟩
      · have hp8 := B8 _ _ xp.1 hp
        refine ⟨_, rfl, p, _, 2, 2, rfl, rfl, hp8, rfl, 64, by decide, by decide, rfl, But.grown (.refl H) npH (B7.trans B8) hp8, S8.put xp, upd_same, by rw [upd_ne d3p]; exact B8 _ _ x3.1 h3, by rw [upd_ne d4p]; exact B8 _ _ x4.1 h4, by rw [upd_ne d5p]; exact B8 _ _ x5.1 h5⟩
      · exact ⟨n, n0, by omega, rfl, B7.trans B8, S8, B8 _ _ xp.1 hp, B8 _ _ x3.1 h3, B8 _ _ x4.1 h4, B8 _ _ x5.1 h5⟩
    rintro σ' H8 ⟨n', n0', n64, rfl, B8, S8, hp8, h3, h4, h5⟩
    have fin : ∀ (H' : Hp) (q3 q4 q5 : Addr), RowN pimg (GoodP z n') a ca H H' q3 400 → RowN aimg (GoodA r z n') a ca H H' q4 400 → RowN pimg (GoodP z n') a ca H H' q5 400 → H' p = some (.lst [.str r, .str z, .int n', .ref q3, .ref q4, .ref q5]) → But a H H' → Sto H' a ca → Q (.ref p) H' := by
      rintro H' b c e ⟨bx, be, _, b1, _, b2, b3, b4, b5⟩ ⟨ax, ae, _, c1, _, c2, c3, c4, c5⟩ ⟨ex, ee, _, e1, _, e2, e3, e4, e5⟩ hp' B S'
      obtain ⟨m, rfl⟩ := Int.eq_ofNat_of_zero_le n0'
      exact q p r z m be ae ee b c e bx ax ex H' ⟨⟨ar, az, n0', n64, b4, c4, e4⟩, hp', b2, c2, e2, b5, c5, e5, b3, c3, e3, xp.1, b1, c1, e1⟩ B S'
    have R3 : RowN pimg (GoodP z n') a ca H H8 q3 0 := RowN.nil n3H x3.1 x3.2 h3
    have R4 : RowN aimg (GoodA r z n') a ca H H8 q4 0 := RowN.nil n4H x4.1 x4.2 h4
    have R5 : RowN pimg (GoodP z n') a ca H H8 q5 0 := RowN.nil n5H x5.1 x5.2 h5
    refine ⟨_, rfl, _, _, _, _, rfl, rfl, .inl (.inl hp8), rfl, rfl, _, rfl, ite2 (fun _ => ?_) (fun ne0 => ?_)⟩
    · exact ⟨_, rfl, fin H8 q3 q4 q5 (R3.le (by decide)) (R4.le (by decide)) (R5.le (by decide)) hp8 B8 S8⟩
    have n1 : 1 ≤ n' := by
      by_cases h : n' = 0
      · exact (ne0 (decide_eq_true (by rw [h]))).elim
      · omega
    clear S7 B7 hp
    refine ⟨fun σ' H' => ∃ (q3 q4 q5 : Addr) (y1 y2 : Option V), σ' = [some (.ref a), some (.ref p), y1, y2] ∧ But a H H' ∧ Sto H' a ca ∧ H' p = some (.lst [.str r, .str z, .int n', .ref q3, .ref q4, .ref q5]) ∧ RowN pimg (GoodP z n') a ca H H' q3 400 ∧ RowN aimg (GoodA r z n') a ca H H' q4 400 ∧ RowN pimg (GoodP z n') a ca H H' q5 400 ∧ q3 ≠ q4 ∧ q3 ≠ q5 ∧ q4 ≠ q5 ∧ q3 ≠ p ∧ q4 ≠ p ∧ q5 ≠ p, ?_, ?_⟩
    · refine ⟨3, 6, rfl, by decide, ?_⟩
      refine for_range (lo := 3) (n := 3) (fun i σ H' => ∃ (q3 q4 q5 : Addr) (y1 y2 : Option V), σ = [some (.ref a), some (.ref p), y1, y2] ∧ But a H H' ∧ Sto H' a ca ∧ H' p = some (.lst [.str r, .str z, .int n', .ref q3, .ref q4, .ref q5]) ∧ RowN pimg (GoodP z n') a ca H H' q3 (if 0 < i then 400 else 0) ∧ RowN aimg (GoodA r z n') a ca H H' q4 (if 1 < i then 400 else 0) ∧ RowN pimg (GoodP z n') a ca H H' q5 (if 2 < i then 400 else 0) ∧ q3 ≠ q4 ∧ q3 ≠ q5 ∧ q4 ≠ q5 ∧ q3 ≠ p ∧ q4 ≠ p ∧ q5 ≠ p) ⟨q3, q4, q5, _, _, rfl, B8, S8, hp8, R3, R4, R5, d34, d35, d45, d3p, d4p, d5p⟩ ?_ ?_
      · rintro i σ H' hi ⟨q3, q4, q5, y1, y2, rfl, B9, S9, hp9, R3, R4, R5, d34, d35, d45, d3p, d4p, d5p⟩
        obtain rfl | rfl | rfl : i = 0 ∨ i = 1 ∨ i = 2 := by omega
        · have R3 : RowN pimg (GoodP z n') a ca H H' q3 0 := R3
          have R4 : RowN aimg (GoodA r z n') a ca H H' q4 0 := R4
          have R5 : RowN pimg (GoodP z n') a ca H H' q5 0 := R5
          refine ⟨fun σ' H' => ∃ (y2 : Option V), σ' = [some (.ref a), some (.ref p), some (.int (3 + ((0 : Nat) : Int))), y2] ∧ But a H H' ∧ Sto H' a ca ∧ H' p = some (.lst [.str r, .str z, .int n', .ref q3, .ref q4, .ref q5]) ∧ RowN pimg (GoodP z n') a ca H H' q3 4 ∧ RowN aimg (GoodA r z n') a ca H H' q4 0 ∧ RowN pimg (GoodP z n') a ca H H' q5 0 ∧ q3 ≠ q4 ∧ q3 ≠ q5 ∧ q4 ≠ q5 ∧ q3 ≠ p ∧ q4 ≠ p ∧ q5 ≠ p, ?_, ?_⟩
          · refine ⟨_, rfl, a, ca, 0, 4, rfl, S9, by decide, fun m G1 m0 m4 A1 T1 => ⟨m, rfl, by omega, by omega, ?_⟩⟩
            refine for_range (lo := 0) (n := m.toNat) (fun k σ H' => ∃ (y2 : Option V), σ = [some (.ref a), some (.ref p), some (.int (3 + ((0 : Nat) : Int))), y2] ∧ But a H H' ∧ Sto H' a ca ∧ H' p = some (.lst [.str r, .str z, .int n', .ref q3, .ref q4, .ref q5]) ∧ RowN pimg (GoodP z n') a ca H H' q3 k ∧ RowN aimg (GoodA r z n') a ca H H' q4 0 ∧ RowN pimg (GoodP z n') a ca H H' q5 0 ∧ q3 ≠ q4 ∧ q3 ≠ q5 ∧ q4 ≠ q5 ∧ q3 ≠ p ∧ q4 ≠ p ∧ q5 ≠ p) ⟨_, rfl, B9.trans A1, T1, A1 _ _ xp.1 hp9, R3.but A1 S9, R4.but A1 S9, R5.but A1 S9, d34, d35, d45, d3p, d4p, d5p⟩ ?_ ?_
            · rintro k σ G2 hk ⟨y2, rfl, A2, T2, g2, R3, R4, R5, d34, d35, d45, d3p, d4p, d5p⟩
              have hk4 : k < 4 := by
                have : k < m.toNat := hk
                omega
              obtain ⟨xs, hx, ltx, xa, n0H, xc, _⟩ := R3.lt (by omega)
              refine ⟨_, rfl, _, rfl, _, _, _, _, rfl, rfl, .inl (.inl g2), rfl, .inl ⟨rfl, _, .inl (.inl hx)⟩, _, rfl, _, rfl, _, rfl, a, ca, p, _, r, z, n', _, rfl, T2, xp.1, g2, ar, az, n0', n64, fun h => absurd h (by decide), fun _ t e G3 g l2 A3 T3 nt ta tc ht => ?_⟩
              have hx3 := A3 _ _ xa hx
              exact ⟨q3, _, _, rfl, rfl, hx3, ltx, _, rfl, But.grown (.refl H) n0H (A2.trans A3) hx3, T3.put ⟨xa, xc⟩, by rw [upd_ne (Ne.symm d3p)]; exact A3 _ _ xp.1 g2, (R3.but A3 T2).push hx3 ht (g.good n1), (R4.but A3 T2).other d34.symm hx3, (R5.but A3 T2).other d35.symm hx3, d34, d35, d45, d3p, d4p, d5p⟩
            · rintro σ G2 ⟨y2, rfl, A2, T2, g2, R3, R4, R5, dd⟩
              exact ⟨_, rfl, A2, T2, g2, R3.le (by omega), R4, R5, dd⟩
          rintro σ G2 ⟨y2, rfl, A2, T2, g2, R3, R4, R5, d34, d35, d45, d3p, d4p, d5p⟩
          refine ⟨_, rfl, a, ca, 24, rfl, T2, by decide, fun d G3 _ _ A3 T3 => ⟨rfl, _, rfl, ite2 (fun _ => ?_) (fun _ => ?_)⟩⟩
          · have g3 := A3 _ _ xp.1 g2
            refine ⟨_, rfl, _, rfl, _, rfl, a, ca, p, _, r, z, n', _, rfl, T3, xp.1, g3, ar, az, n0', n64, fun h => absurd h (by decide), fun _ t e G4 g l2 A4 T4 nt ta tc ht => ?_⟩
            refine ⟨by show 1 ≤ sizeLine; decide, fun u nu => ?_⟩
            have k1 := same_new (o := .lst [.ref t]) nu
            have hu : (upd G4 u (.lst [.ref t])) u = some (.lst [.ref t]) := upd_same
            have T5 := T4.new (o := .lst [.ref t]) nu
            generalize upd G4 u (.lst [.ref t]) = G5 at k1 hu T5 ⊢
            refine ⟨u, 400, _, rfl, rfl, hu, by decide, by decide, by show 1 * 400 ≤ sizeLine; decide, fun u2 nu2 => ?_⟩
            have x2 := T5.ne nu2
            have k2 := same_new (o := .lst (List.replicate (400 : Int).toNat [.ref t]).flatten) nu2
            have hu2 : (upd G5 u2 (.lst (List.replicate (400 : Int).toNat [.ref t]).flatten)) u2 = some (.lst (List.replicate (400 : Int).toNat [.ref t]).flatten) := upd_same
            have T6 := T5.new (o := .lst (List.replicate (400 : Int).toNat [.ref t]).flatten) nu2
            have AA := (A3.trans A4).trans (But.same (k1.trans k2))
            have u2H := ((A2.trans (A3.trans A4)).trans (But.same k1)).free nu2 x2.1
            have u2p : u2 ≠ p := fun e => by rw [e, k1 _ _ (A4 _ _ xp.1 g3)] at nu2; cases nu2
            have v1 : q4 ≠ u2 := ((R4.but (A3.trans A4) T2).same k1).some nu2
            have v2 : q5 ≠ u2 := ((R5.but (A3.trans A4) T2).same k1).some nu2
            generalize upd G5 u2 (.lst (List.replicate (400 : Int).toNat [.ref t]).flatten) = G6 at k2 hu2 T6 AA ⊢
            have g6 := AA _ _ xp.1 g2
            refine ⟨_, rfl, _, rfl, p, _, 3, 3, rfl, rfl, g6, rfl, ?_⟩
            obtain ⟨fs, e1, e2⟩ := (show EntL pimg G6 [.ref t] [e] from .cons ⟨t, rfl, (k1.trans k2) _ _ ht⟩ .nil).sub (ys := (List.replicate (400 : Int).toNat [.ref t]).flatten) fun y m => by
              rw [List.flatten_replicate_singleton] at m
              rw [List.eq_of_mem_replicate m]
              exact List.mem_cons_self
            have Ru : RowN pimg (GoodP z n') a ca H G6 u2 400 := ⟨_, fs, u2H, x2.1, x2.2, hu2, e1, fun e' m => (by rw [List.mem_singleton.mp (e2 e' m)]; exact g.good n1), by rw [List.flatten_replicate_singleton, List.length_replicate]; decide⟩
            exact ⟨u2, q4, q5, _, _, rfl, But.grown (.refl H) npH (A2.trans AA) g6, T6.put xp, upd_same, Ru.other u2p g6, (R4.but AA T2).other d4p g6, (R5.but AA T2).other d5p g6, v1.symm, v2.symm, d45, u2p, d4p, d5p⟩
          · exact ⟨q3, q4, q5, _, _, rfl, A2.trans A3, T3, A3 _ _ xp.1 g2, (R3.but A3 T2).le (by decide), (R4.but A3 T2), (R5.but A3 T2), d34, d35, d45, d3p, d4p, d5p⟩
        · have R3 : RowN pimg (GoodP z n') a ca H H' q3 400 := R3
          have R4 : RowN aimg (GoodA r z n') a ca H H' q4 0 := R4
          have R5 : RowN pimg (GoodP z n') a ca H H' q5 0 := R5
          refine ⟨fun σ' H' => ∃ (y2 : Option V), σ' = [some (.ref a), some (.ref p), some (.int (3 + ((1 : Nat) : Int))), y2] ∧ But a H H' ∧ Sto H' a ca ∧ H' p = some (.lst [.str r, .str z, .int n', .ref q3, .ref q4, .ref q5]) ∧ RowN pimg (GoodP z n') a ca H H' q3 400 ∧ RowN aimg (GoodA r z n') a ca H H' q4 4 ∧ RowN pimg (GoodP z n') a ca H H' q5 0 ∧ q3 ≠ q4 ∧ q3 ≠ q5 ∧ q4 ≠ q5 ∧ q3 ≠ p ∧ q4 ≠ p ∧ q5 ≠ p, ?_, ?_⟩
          · refine ⟨_, rfl, a, ca, 0, 4, rfl, S9, by decide, fun m G1 m0 m4 A1 T1 => ⟨m, rfl, by omega, by omega, ?_⟩⟩
            refine for_range (lo := 0) (n := m.toNat) (fun k σ H' => ∃ (y2 : Option V), σ = [some (.ref a), some (.ref p), some (.int (3 + ((1 : Nat) : Int))), y2] ∧ But a H H' ∧ Sto H' a ca ∧ H' p = some (.lst [.str r, .str z, .int n', .ref q3, .ref q4, .ref q5]) ∧ RowN pimg (GoodP z n') a ca H H' q3 400 ∧ RowN aimg (GoodA r z n') a ca H H' q4 k ∧ RowN pimg (GoodP z n') a ca H H' q5 0 ∧ q3 ≠ q4 ∧ q3 ≠ q5 ∧ q4 ≠ q5 ∧ q3 ≠ p ∧ q4 ≠ p ∧ q5 ≠ p) ⟨_, rfl, B9.trans A1, T1, A1 _ _ xp.1 hp9, R3.but A1 S9, R4.but A1 S9, R5.but A1 S9, d34, d35, d45, d3p, d4p, d5p⟩ ?_ ?_
            · rintro k σ G2 hk ⟨y2, rfl, A2, T2, g2, R3, R4, R5, d34, d35, d45, d3p, d4p, d5p⟩
              have hk4 : k < 4 := by
                have : k < m.toNat := hk
                omega
              obtain ⟨xs, hx, ltx, xa, n0H, xc, _⟩ := R4.lt (by omega)
              refine ⟨_, rfl, _, rfl, _, _, _, _, rfl, rfl, .inl (.inl g2), rfl, .inl ⟨rfl, _, .inl (.inl hx)⟩, _, rfl, _, rfl, _, rfl, a, ca, p, _, r, z, n', _, rfl, T2, xp.1, g2, ar, az, n0', n64, fun _ t e G3 g A3 T3 nt ta tc ht => ?_, fun h => absurd rfl h⟩
              have hx3 := A3 _ _ xa hx
              exact ⟨q4, _, _, rfl, rfl, hx3, ltx, _, rfl, But.grown (.refl H) n0H (A2.trans A3) hx3, T3.put ⟨xa, xc⟩, by rw [upd_ne (Ne.symm d4p)]; exact A3 _ _ xp.1 g2, (R3.but A3 T2).other d34 hx3, (R4.but A3 T2).push hx3 ht (g.good n1), (R5.but A3 T2).other d45.symm hx3, d34, d35, d45, d3p, d4p, d5p⟩
            · rintro σ G2 ⟨y2, rfl, A2, T2, g2, R3, R4, R5, dd⟩
              exact ⟨_, rfl, A2, T2, g2, R3, R4.le (by omega), R5, dd⟩
          rintro σ G2 ⟨y2, rfl, A2, T2, g2, R3, R4, R5, d34, d35, d45, d3p, d4p, d5p⟩
          refine ⟨_, rfl, a, ca, 24, rfl, T2, by decide, fun d G3 _ _ A3 T3 => ⟨rfl, _, rfl, ite2 (fun _ => ?_) (fun _ => ?_)⟩⟩
          · have g3 := A3 _ _ xp.1 g2
            refine ⟨_, rfl, _, rfl, _, rfl, a, ca, p, _, r, z, n', _, rfl, T3, xp.1, g3, ar, az, n0', n64, fun _ t e G4 g A4 T4 nt ta tc ht => ?_, fun h => absurd rfl h⟩
            refine ⟨by show 1 ≤ sizeLine; decide, fun u nu => ?_⟩
            have k1 := same_new (o := .lst [.ref t]) nu
            have hu : (upd G4 u (.lst [.ref t])) u = some (.lst [.ref t]) := upd_same
            have T5 := T4.new (o := .lst [.ref t]) nu
            generalize upd G4 u (.lst [.ref t]) = G5 at k1 hu T5 ⊢
            refine ⟨u, 400, _, rfl, rfl, hu, by decide, by decide, by show 1 * 400 ≤ sizeLine; decide, fun u2 nu2 => ?_⟩
            have x2 := T5.ne nu2
            have k2 := same_new (o := .lst (List.replicate (400 : Int).toNat [.ref t]).flatten) nu2
            have hu2 : (upd G5 u2 (.lst (List.replicate (400 : Int).toNat [.ref t]).flatten)) u2 = some (.lst (List.replicate (400 : Int).toNat [.ref t]).flatten) := upd_same
            have T6 := T5.new (o := .lst (List.replicate (400 : Int).toNat [.ref t]).flatten) nu2
            have AA := (A3.trans A4).trans (But.same (k1.trans k2))
            have u2H := ((A2.trans (A3.trans A4)).trans (But.same k1)).free nu2 x2.1
            have u2p : u2 ≠ p := fun e => by rw [e, k1 _ _ (A4 _ _ xp.1 g3)] at nu2; cases nu2
            have v0 : q3 ≠ u2 := ((R3.but (A3.trans A4) T2).same k1).some nu2
            have v2 : q5 ≠ u2 := ((R5.but (A3.trans A4) T2).same k1).some nu2
            generalize upd G5 u2 (.lst (List.replicate (400 : Int).toNat [.ref t]).flatten) = G6 at k2 hu2 T6 AA ⊢
            have g6 := AA _ _ xp.1 g2
            refine ⟨_, rfl, _, rfl, p, _, 4, 4, rfl, rfl, g6, rfl, ?_⟩
            obtain ⟨fs, e1, e2⟩ := (show EntL aimg G6 [.ref t] [e] from .cons ⟨t, rfl, (k1.trans k2) _ _ ht⟩ .nil).sub (ys := (List.replicate (400 : Int).toNat [.ref t]).flatten) fun y m => by
              rw [List.flatten_replicate_singleton] at m
              rw [List.eq_of_mem_replicate m]
              exact List.mem_cons_self
            have Ru : RowN aimg (GoodA r z n') a ca H G6 u2 400 := ⟨_, fs, u2H, x2.1, x2.2, hu2, e1, fun e' m => (by rw [List.mem_singleton.mp (e2 e' m)]; exact g.good n1), by rw [List.flatten_replicate_singleton, List.length_replicate]; decide⟩
            exact ⟨q3, u2, q5, _, _, rfl, But.grown (.refl H) npH (A2.trans AA) g6, T6.put xp, upd_same, (R3.but AA T2).other d3p g6, Ru.other u2p g6, (R5.but AA T2).other d5p g6, v0, d35, v2.symm, d3p, u2p, d5p⟩
          · exact ⟨q3, q4, q5, _, _, rfl, A2.trans A3, T3, A3 _ _ xp.1 g2, (R3.but A3 T2), (R4.but A3 T2).le (by decide), (R5.but A3 T2), d34, d35, d45, d3p, d4p, d5p⟩
        · have R3 : RowN pimg (GoodP z n') a ca H H' q3 400 := R3
          have R4 : RowN aimg (GoodA r z n') a ca H H' q4 400 := R4
          have R5 : RowN pimg (GoodP z n') a ca H H' q5 0 := R5
          refine ⟨fun σ' H' => ∃ (y2 : Option V), σ' = [some (.ref a), some (.ref p), some (.int (3 + ((2 : Nat) : Int))), y2] ∧ But a H H' ∧ Sto H' a ca ∧ H' p = some (.lst [.str r, .str z, .int n', .ref q3, .ref q4, .ref q5]) ∧ RowN pimg (GoodP z n') a ca H H' q3 400 ∧ RowN aimg (GoodA r z n') a ca H H' q4 400 ∧ RowN pimg (GoodP z n') a ca H H' q5 4 ∧ q3 ≠ q4 ∧ q3 ≠ q5 ∧ q4 ≠ q5 ∧ q3 ≠ p ∧ q4 ≠ p ∧ q5 ≠ p, ?_, ?_⟩
          · refine ⟨_, rfl, a, ca, 0, 4, rfl, S9, by decide, fun m G1 m0 m4 A1 T1 => ⟨m, rfl, by omega, by omega, ?_⟩⟩
            refine for_range (lo := 0) (n := m.toNat) (fun k σ H' => ∃ (y2 : Option V), σ = [some (.ref a), some (.ref p), some (.int (3 + ((2 : Nat) : Int))), y2] ∧ But a H H' ∧ Sto H' a ca ∧ H' p = some (.lst [.str r, .str z, .int n', .ref q3, .ref q4, .ref q5]) ∧ RowN pimg (GoodP z n') a ca H H' q3 400 ∧ RowN aimg (GoodA r z n') a ca H H' q4 400 ∧ RowN pimg (GoodP z n') a ca H H' q5 k ∧ q3 ≠ q4 ∧ q3 ≠ q5 ∧ q4 ≠ q5 ∧ q3 ≠ p ∧ q4 ≠ p ∧ q5 ≠ p) ⟨_, rfl, B9.trans A1, T1, A1 _ _ xp.1 hp9, R3.but A1 S9, R4.but A1 S9, R5.but A1 S9, d34, d35, d45, d3p, d4p, d5p⟩ ?_ ?_
            · rintro k σ G2 hk ⟨y2, rfl, A2, T2, g2, R3, R4, R5, d34, d35, d45, d3p, d4p, d5p⟩
              have hk4 : k < 4 := by
                have : k < m.toNat := hk
                omega
              obtain ⟨xs, hx, ltx, xa, n0H, xc, _⟩ := R5.lt (by omega)
              refine ⟨_, rfl, _, rfl, _, _, _, _, rfl, rfl, .inl (.inl g2), rfl, .inl ⟨rfl, _, .inl (.inl hx)⟩, _, rfl, _, rfl, _, rfl, a, ca, p, _, r, z, n', _, rfl, T2, xp.1, g2, ar, az, n0', n64, fun h => absurd h (by decide), fun _ t e G3 g l2 A3 T3 nt ta tc ht => ?_⟩
              have hx3 := A3 _ _ xa hx
              exact ⟨q5, _, _, rfl, rfl, hx3, ltx, _, rfl, But.grown (.refl H) n0H (A2.trans A3) hx3, T3.put ⟨xa, xc⟩, by rw [upd_ne (Ne.symm d5p)]; exact A3 _ _ xp.1 g2, (R3.but A3 T2).other d35 hx3, (R4.but A3 T2).other d45 hx3, (R5.but A3 T2).push hx3 ht (g.good n1), d34, d35, d45, d3p, d4p, d5p⟩
            · rintro σ G2 ⟨y2, rfl, A2, T2, g2, R3, R4, R5, dd⟩
              exact ⟨_, rfl, A2, T2, g2, R3, R4, R5.le (by omega), dd⟩
          rintro σ G2 ⟨y2, rfl, A2, T2, g2, R3, R4, R5, d34, d35, d45, d3p, d4p, d5p⟩
          refine ⟨_, rfl, a, ca, 24, rfl, T2, by decide, fun d G3 _ _ A3 T3 => ⟨rfl, _, rfl, ite2 (fun _ => ?_) (fun _ => ?_)⟩⟩
          · have g3 := A3 _ _ xp.1 g2
            refine ⟨_, rfl, _, rfl, _, rfl, a, ca, p, _, r, z, n', _, rfl, T3, xp.1, g3, ar, az, n0', n64, fun h => absurd h (by decide), fun _ t e G4 g l2 A4 T4 nt ta tc ht => ?_⟩
            refine ⟨by show 1 ≤ sizeLine; decide, fun u nu => ?_⟩
            have k1 := same_new (o := .lst [.ref t]) nu
            have hu : (upd G4 u (.lst [.ref t])) u = some (.lst [.ref t]) := upd_same
            have T5 := T4.new (o := .lst [.ref t]) nu
            generalize upd G4 u (.lst [.ref t]) = G5 at k1 hu T5 ⊢
            refine ⟨u, 400, _, rfl, rfl, hu, by decide, by decide, by show 1 * 400 ≤ sizeLine; decide, fun u2 nu2 => ?_⟩
            have x2 := T5.ne nu2
            have k2 := same_new (o := .lst (List.replicate (400 : Int).toNat [.ref t]).flatten) nu2
            have hu2 : (upd G5 u2 (.lst (List.replicate (400 : Int).toNat [.ref t]).flatten)) u2 = some (.lst (List.replicate (400 : Int).toNat [.ref t]).flatten) := upd_same
            have T6 := T5.new (o := .lst (List.replicate (400 : Int).toNat [.ref t]).flatten) nu2
            have AA := (A3.trans A4).trans (But.same (k1.trans k2))
            have u2H := ((A2.trans (A3.trans A4)).trans (But.same k1)).free nu2 x2.1
            have u2p : u2 ≠ p := fun e => by rw [e, k1 _ _ (A4 _ _ xp.1 g3)] at nu2; cases nu2
            have v0 : q3 ≠ u2 := ((R3.but (A3.trans A4) T2).same k1).some nu2
            have v1 : q4 ≠ u2 := ((R4.but (A3.trans A4) T2).same k1).some nu2
            generalize upd G5 u2 (.lst (List.replicate (400 : Int).toNat [.ref t]).flatten) = G6 at k2 hu2 T6 AA ⊢
            have g6 := AA _ _ xp.1 g2
            refine ⟨_, rfl, _, rfl, p, _, 5, 5, rfl, rfl, g6, rfl, ?_⟩
            obtain ⟨fs, e1, e2⟩ := (show EntL pimg G6 [.ref t] [e] from .cons ⟨t, rfl, (k1.trans k2) _ _ ht⟩ .nil).sub (ys := (List.replicate (400 : Int).toNat [.ref t]).flatten) fun y m => by
              rw [List.flatten_replicate_singleton] at m
              rw [List.eq_of_mem_replicate m]
              exact List.mem_cons_self
            have Ru : RowN pimg (GoodP z n') a ca H G6 u2 400 := ⟨_, fs, u2H, x2.1, x2.2, hu2, e1, fun e' m => (by rw [List.mem_singleton.mp (e2 e' m)]; exact g.good n1), by rw [List.flatten_replicate_singleton, List.length_replicate]; decide⟩
            exact ⟨q3, q4, u2, _, _, rfl, But.grown (.refl H) npH (A2.trans AA) g6, T6.put xp, upd_same, (R3.but AA T2).other d3p g6, (R4.but AA T2).other d4p g6, Ru.other u2p g6, d34, v0, v1, d3p, d4p, u2p⟩
          · exact ⟨q3, q4, q5, _, _, rfl, A2.trans A3, T3, A3 _ _ xp.1 g2, (R3.but A3 T2), (R4.but A3 T2), (R5.but A3 T2).le (by decide), d34, d35, d45, d3p, d4p, d5p⟩
      · rintro σ H' ⟨q3, q4, q5, y1, y2, rfl, h⟩
        exact ⟨q3, q4, q5, _, _, rfl, h⟩
    rintro σ' H9 ⟨q3, q4, q5, y1, y2, rfl, B9, S9, hp9, R3, R4, R5, d34, d35, d45, d3p, d4p, d5p⟩
    refine ⟨fun σ' H' => ∃ (q3 q4 q5 : Addr) (y1 y2 : Option V), σ' = [some (.ref a), some (.ref p), y1, y2] ∧ But a H H' ∧ Sto H' a ca ∧ H' p = some (.lst [.str r, .str z, .int n', .ref q3, .ref q4, .ref q5]) ∧ RowN pimg (GoodP z n') a ca H H' q3 400 ∧ RowN aimg (GoodA r z n') a ca H H' q4 400 ∧ RowN pimg (GoodP z n') a ca H H' q5 400, ?_, ?_⟩
    · refine ⟨_, rfl, a, ca, 6, rfl, S9, by decide, fun d G1 _ _ A1 T1 => ⟨rfl, _, rfl, ite2 (fun _ => ?_) (fun _ => ?_)⟩⟩
      · have g1 := A1 _ _ xp.1 hp9
        refine ⟨_, rfl, _, _, _, _, rfl, rfl, .inl (.inl g1), rfl, _, _, rfl, rfl, _, rfl, _, rfl, _, _, _, _, rfl, rfl, .inl (.inl g1), rfl, a, ca, z, 400, rfl, T1, az.len1, az.small, by decide, by decide, fun v G2 ov lv A2 T2 => ⟨by show 2 ≤ sizeLine; decide, fun t nt => ?_⟩⟩
        have lv : (v.length : Int) = 400 := lv
        have k1 := same_new (o := .tup [.int (n' - 1), .str v]) nt
        have ht : (upd G2 t (.tup [.int (n' - 1), .str v])) t = some (.tup (pimg (n' - 1, v))) := upd_same
        have T3 := T2.new (o := .tup [.int (n' - 1), .str v]) nt
        generalize upd G2 t (.tup [.int (n' - 1), .str v]) = G3 at k1 ht T3 ⊢
        refine ⟨by show 1 ≤ sizeLine; decide, fun l nl => ?_⟩
        have k2 := same_new (o := .lst [.ref t]) nl
        have hl : (upd G3 l (.lst [.ref t])) l = some (.lst [.ref t]) := upd_same
        have T4 := T3.new (o := .lst [.ref t]) nl
        have ht := k2 _ _ ht
        generalize upd G3 l (.lst [.ref t]) = G4 at k2 ht hl T4 ⊢
        have AA := (A1.trans A2).trans (But.same (k1.trans k2))
        have g4 := AA _ _ xp.1 hp9
        obtain ⟨xs, es, _, xa, xc, hx, en, ge, lx⟩ := R3.but AA S9
        refine ⟨_, rfl, _, _, _, _, rfl, rfl, .inl (.inl g4), rfl, 399, rfl, q3, xs, rfl, .inl (.inl hx), fun u nu => ?_⟩
        have k3 := same_new (o := .lst (cutV xs none (some 399))) nu
        have hu : (upd G4 u (.lst (cutV xs none (some 399)))) u = some (.lst (cutV xs none (some 399))) := upd_same
        have T5 := T4.new (o := .lst (cutV xs none (some 399))) nu
        have hl := k3 _ _ hl
        have lc : (cutV xs none (some 399)).length ≤ 399 := by
          unfold cutV
          rw [List.length_take]
          refine Nat.le_trans (Nat.min_le_left _ _) (Nat.le_trans (Nat.sub_le _ _) ?_)
          unfold HT.sIx
          simp
          omega
        have mc : ∀ y ∈ cutV xs none (some 399), y ∈ xs := fun y m => by
          unfold cutV at m
          exact List.mem_of_mem_drop (List.mem_of_mem_take m)
        generalize upd G4 u (.lst (cutV xs none (some 399))) = G5 at k3 hu hl T5 ⊢
        refine ⟨l, u, _, _, rfl, rfl, hl, hu, Nat.le_trans (show 1 + (cutV xs none (some 399)).length ≤ 400 by omega) (by decide), fun w nw => ?_⟩
        have xw := T5.ne nw
        have k4 := same_new (o := .lst ([.ref t] ++ cutV xs none (some 399))) nw
        have hw : (upd G5 w (.lst ([.ref t] ++ cutV xs none (some 399)))) w = some (.lst ([.ref t] ++ cutV xs none (some 399))) := upd_same
        have T6 := T5.new (o := .lst ([.ref t] ++ cutV xs none (some 399))) nw
        have wH := ((B9.trans AA).trans (But.same k3)).free nw xw.1
        have wp : w ≠ p := fun e => by rw [e, k3 _ _ g4] at nw; cases nw
        generalize upd G5 w (.lst ([.ref t] ++ cutV xs none (some 399))) = G6 at k4 hw T6 ⊢
        have k34 := k3.trans k4
        have g6 := k34 _ _ g4
        refine ⟨_, rfl, p, _, 3, 3, rfl, rfl, g6, rfl, ?_⟩
        obtain ⟨fs, f1, f2⟩ := (en.same k34).sub mc
        have Rw : RowN pimg (GoodP z n') a ca H G6 w 400 := ⟨_, (n' - 1, v) :: fs, wH, xw.1, xw.2, hw, .cons ⟨t, rfl, k34 _ _ ht⟩ f1, fun e' m => (by
          rcases List.mem_cons.mp m with h | m
          · rw [h]
            exact ⟨by show 0 ≤ n' - 1; omega, Int.le_refl _, ov, by show (v.length : Int) ≤ 400; omega⟩
          · exact ge e' (f2 e' m)), by rw [List.length_append]; show 1 + _ ≤ 400; omega⟩
        exact ⟨w, q4, q5, _, _, rfl, But.grown (.refl H) npH ((B9.trans AA).trans (But.same k34)) g6, T6.put xp, upd_same, Rw.other wp g6, ((R4.but AA S9).same k34).other d4p g6, ((R5.but AA S9).same k34).other d5p g6⟩
      · exact ⟨q3, q4, q5, _, _, rfl, B9.trans A1, T1, A1 _ _ xp.1 hp9, R3.but A1 S9, R4.but A1 S9, R5.but A1 S9⟩
    rintro σ' G1 ⟨q3, q4, q5, y1, y2, rfl, A1, T1, g1, R3, R4, R5⟩
    exact ⟨_, rfl, fin G1 q3 q4 q5 R3 R4 R5 g1 A1 T1⟩


def sp_made [Tabl] (cL cN cE cT C : Addr) (K : PySem.W.Frag) : Sp := fun vs H Q E => ∃ (p : Addr) (rv zv nv bv av ev : V), vs = [.ref p] ∧ H p = some (.lst [rv, zv, nv, bv, av, ev]) ∧ Good H ∧
  ((∃ (r z : Str) (n : Int) (b a e : Addr) (be : List (Int × Str)) (ae : List EnS.Arc) (ee : List (Int × Str)), rv = .str r ∧ zv = .str z ∧ nv = .int n ∧ bv = .ref b ∧ av = .ref a ∧ ev = .ref e ∧ GoodM r z n be ae ee ∧ RowE K pimg H b be ∧ RowE K aimg H a ae ∧ RowE K pimg H e ee ∧
    ∀ (m : Addr) (H' : Hp), Same H H' → H m = none → Mach C H' m r z n be ae ee → Young C H H' m → Q (.ref m) H') ∨
   ∃ f, MFAt K H rv zv nv bv av ev f ∧ RaisedF H (f.cls cL cN cE cT) (f.fs rv zv nv) E)
theorem ok_made (T : Txt K mg base) : FnOk P w K mg base (L2.CX P w) (10 + 1) T.f_made T.fd_made ["parts"] (sp_made T.C_BadLetters T.C_BadNumber T.C_BadEntry T.C_TooLarge T.C_Machine K) := by
  refine T.F_made.okX sc_made (fun vs H Q E h => ?_) (fun cdv A outer s H vs Q E hr h => ?_)
  · obtain ⟨p, rv, zv, nv, bv, av, ev, rfl, _⟩ := h
    rfl
  · obtain ⟨p, rv, zv, nv, bv, av, ev, rfl, hp, good, h⟩ := h
    refine ⟨_, (pss_one (ps_ret (pe_makeKS T.M_Machine (ok_Machine___init__ T) (hr.mono (by first | decide | exact Nat.le_refl _)) (by rfl) T.mg_Machine T.kb_Machine_0 (fun σ => passAt (takes_of rfl rfl rfl rfl) σ) (pa_cons (pe_ix ix_list (pv 0) pe_int (fun _ _ => rfl)) (pa_cons (pe_ix ix_list (pv 0) pe_int (fun _ _ => rfl)) (pa_cons (pe_ix ix_list (pv 0) pe_int (fun _ _ => rfl)) pa_nil))) (pk_cons (pe_ix ix_list (pv 0) pe_int (fun _ _ => rfl)) (pk_cons (pe_ix ix_list (pv 0) pe_int (fun _ _ => rfl)) (pk_cons (pe_ix ix_list (pv 0) pe_int (fun _ _ => rfl)) pk_nil)))))), ?_⟩
    refine ⟨_, rfl, _, _, _, _, rfl, rfl, .inl (.inl hp), rfl, _, rfl, _, _, _, _, rfl, rfl, .inl (.inl hp), rfl, _, rfl, _, _, _, _, rfl, rfl, .inl (.inl hp), rfl, _, rfl, _, _, _, _, rfl, rfl, .inl (.inl hp), rfl, _, rfl, _, _, _, _, rfl, rfl, .inl (.inl hp), rfl, _, rfl, _, _, _, _, rfl, rfl, .inl (.inl hp), rfl, rfl, rfl, fun m dx nm nd ne => ?_⟩
    have s1 := same_new (o := .own m) nd
    have nm' : (upd H dx (.own m)) m = none := by
      rw [upd_ne (Ne.symm ne)]
      exact nm
    have s := s1.trans (same_new (o := .ins T.C_Machine dx []) nm')
    refine ⟨m, dx, rv, zv, nv, bv, av, ev, rfl, upd_same, s.good good, ?_⟩
    rcases h with ⟨r, z, n, b, a, e, be, ae, ee, rfl, rfl, rfl, rfl, rfl, rfl, g, rb, ra, re, q⟩ | ⟨f, hf, qe⟩
    · exact .inl ⟨r, z, n, b, a, e, be, ae, ee, rfl, rfl, rfl, rfl, rfl, rfl, g, rb.same s, ra.same s, re.same s, fun H' B gd M Y => ⟨rfl, q m H' (But.made nm nd ne B) nm M (Y.back s)⟩⟩
    · exact .inr ⟨f, hf.kt (Kt.same s), fun d H1 H' B n e => qe d H1 H' (But.made nm nd ne B) n e⟩

def sp_copyD [Tabl] (n : Nat) : Sp := fun vs H Q _ => ∃ v : V, vs = [v] ∧ (∃ a, Deep a n H v) ∧ ∀ (u : V) (H' : Hp), Same H H' → SameD n H' u v → (∀ b, H b ≠ none → Deep b n H v → Deep b n H' u) → Q u H'
/-- what stands behind i items: their copies, apart from the new list -/
def CopyI [Tabl] (n : Nat) (H : Hp) (D : Addr) (xs : List V) (i : Nat) (H' : Hp) : Prop := Same H H' ∧ ∃ ys : List V, H' D = some (.lst ys) ∧ ys.length = i ∧ ∀ (j : Nat) (x y : V), xs[j]? = some x → ys[j]? = some y → SameD n H' y x ∧ Deep D n H' y ∧ ∀ b, H b ≠ none → Deep b n H x → Deep b n H' y
theorem CopyI.step [Tabl] {n i : Nat} {H H1 H2 : Hp} {D : Addr} {xs : List V} {x u : V} {ys : List V} {a : Addr} (nD : H D = none) (s1 : Same H H1) (hD : H1 D = some (.lst ys)) (ly : ys.length = i) (lx : xs.length ≤ 1000000) (hx : xs[i]? = some x)
    (dx : ∀ x ∈ xs, Deep a n H x) (c : ∀ (j : Nat) (x y : V), xs[j]? = some x → ys[j]? = some y → SameD n H1 y x ∧ Deep D n H1 y ∧ ∀ b, H b ≠ none → Deep b n H x → Deep b n H1 y)
    (s2 : Same H1 H2) (su : SameD n H2 u x) (du : ∀ b, H1 b ≠ none → Deep b n H1 x → Deep b n H2 u) : CopyI n H D xs (i + 1) (upd H2 D (.lst (ys ++ [u]))) := by
  have hD2 : H2 D = some (.lst ys) := s2 _ _ hD
  have kb : But D H2 (upd H2 D (.lst (ys ++ [u]))) := But.put hD2
  have mx : ∀ {j z}, xs[j]? = some z → Deep D n H z := fun e => (dx _ (List.mem_of_getElem? e)).avoid nD
  refine ⟨(Same.refl H).grown nD (s1.trans s2) hD2, _, upd_same, by rw [List.length_append, ly]; rfl, fun j z y hz hy => ?_⟩
  by_cases g : j < ys.length
  · rw [List.getElem?_append_left g] at hy
    obtain ⟨c1, c2, c3⟩ := c j z y hz hy
    have d2 := c2.same s2
    exact ⟨(SameD.keep s2 c1).put kb d2 (((mx hz).same s1).same s2), d2.put kb d2, fun b hb db => ((c3 b hb db).same s2).put kb d2⟩
  · have lj : j = i := by
      have := (List.getElem?_eq_some_iff.mp hz).1
      have := (List.getElem?_eq_some_iff.mp hy).1
      rw [List.length_append] at this
      have : j < ys.length + 1 := this
      omega
    subst lj
    rw [List.getElem?_append_right (by omega), ly, Nat.sub_self] at hy
    have ey : u = y := Option.some.inj hy
    subst ey
    rw [hx] at hz
    have ez : x = z := Option.some.inj hz
    subst ez
    have dD : Deep D n H2 u := du D (by rw [hD]; exact fun z => by cases z) ((mx hx).same s1)
    exact ⟨su.put kb dD (((mx hx).same s1).same s2), dD.put kb dD, fun b hb db => (du b (s1.some hb) (db.same s1)).put kb dD⟩
/-- no promise at all -/
theorem fnOk_noCopy {f : Addr} {fd : FuncData} {ps : List Str} {k : Nat} : FnOk P w K mg base CX0 k f fd ps (fun _ _ _ _ => False) :=
  ⟨fun vs H Q E h => h.elim, fun A outer s H args us vs Q E _ _ _ _ h => h.elim⟩
theorem copy_zero {j : Nat} (T : Txt K mg base) :
    FnOk P w K mg base CX0 (j + 1) T.f_copy T.fd_copy ["value"] (sp_copyD 0) := by
  refine T.F_copy.ok sc_copy (fun vs H Q E h => ?_) (fun cdv A outer s H vs Q E hr h => ?_)
  · obtain ⟨v, rfl, _⟩ := h
    rfl
  · obtain ⟨v, rfl, ⟨a, dv⟩, q⟩ := h
    have G : FnOk P w K mg base CX0 j T.f_copy T.fd_copy ["value"] (fun _ _ _ _ => False) := fnOk_noCopy
    refine ⟨_, (pss_cons (ps_if (pt_val (pe_callB call_isi (by rfl) T.z_isinstance (by decide +kernel) (pa_cons (pv 0) (pa_cons (pe_bltn (v := .ty "list") (by rfl) T.z_list (by decide +kernel) rfl) pa_nil)))) (pss_one (ps_ret (pe_lc (own := [("item", 1)]) (g := gName 1) rfl sc_copy.nd (pi_list (pv 0)) (blkOk_by (N := ["value", "item"]) (sc := defScope s_copy) (by decide +kernel)) (fun _ _ _ _ _ => pg_name (i := 1) sc_copy.nd rfl (Or.inl rfl)) (fun _ _ _ _ _ => pts_nil) (fun _ _ _ _ _ => (pe_call G (hr.mono (by first | decide | exact Nat.le_refl _)) (by rfl) T.g_copy T.F_copy.kp T.b_copy .nil pass0 (pa_cons (pv 1) pa_nil)))))) pss_nil)
      (pss_cons (ps_if (pt_val (pe_callB call_isi (by rfl) T.z_isinstance (by decide +kernel) (pa_cons (pv 0) (pa_cons (pe_bltn (v := .ty "tuple") (by rfl) T.z_tuple (by decide +kernel) rfl) pa_nil)))) (pss_one (ps_ret (pe_callTy call_tuple_of (by rfl) T.z_tuple (by decide +kernel) (pa_cons (pe_lc (own := [("item", 1)]) (g := gName 1) rfl sc_copy.nd (pi_tup (pv 0)) (blkOk_by (N := ["value", "item"]) (sc := defScope s_copy) (by decide +kernel)) (fun _ _ _ _ _ => pg_name (i := 1) sc_copy.nd rfl (Or.inl rfl)) (fun _ _ _ _ _ => pts_nil) (fun _ _ _ _ _ => (pe_call G (hr.mono (by first | decide | exact Nat.le_refl _)) (by rfl) T.g_copy T.F_copy.kp T.b_copy .nil pass0 (pa_cons (pv 1) pa_nil)))) pa_nil)))) pss_nil)
      (pss_one (ps_ret (pv 0))))), ?_⟩
    rcases dv with ⟨pl, tx, it⟩ | ⟨p, xs, rfl, ne, o, lx, dx⟩
    · have sv : Shal H v := (show Deep a 0 H v from .inl ⟨pl, tx, it⟩).shal
      have done : Q v H := q v H (.refl H) (show Deep a 0 H v from .inl ⟨pl, tx, it⟩).samed (fun b _ d => d)
      cases v with
      | non => exact ⟨_, rfl, _, _, _, _, false, rfl, .ty _, .base .non, kit_ty (by decide +kernel), _, rfl, iteF ⟨_, rfl, _, _, _, _, false, rfl, .ty _, .base .non, kit_ty (by decide +kernel), _, rfl, iteF ⟨_, rfl, done⟩⟩⟩
      | bl b => exact ⟨_, rfl, _, _, _, _, false, rfl, .ty _, .base (.bl b), kit_ty (by decide +kernel), _, rfl, iteF ⟨_, rfl, _, _, _, _, false, rfl, .ty _, .base (.bl b), kit_ty (by decide +kernel), _, rfl, iteF ⟨_, rfl, done⟩⟩⟩
      | int b => exact ⟨_, rfl, _, _, _, _, false, rfl, .ty _, .base (.int b), kit_ty (by decide +kernel), _, rfl, iteF ⟨_, rfl, _, _, _, _, false, rfl, .ty _, .base (.int b), kit_ty (by decide +kernel), _, rfl, iteF ⟨_, rfl, done⟩⟩⟩
      | str b => exact ⟨_, rfl, _, _, _, _, false, rfl, .ty _, .base (.str b), kit_ty (by decide +kernel), _, rfl, iteF ⟨_, rfl, _, _, _, _, false, rfl, .ty _, .base (.str b), kit_ty (by decide +kernel), _, rfl, iteF ⟨_, rfl, done⟩⟩⟩
      | byt b => cases pl
      | flt b => cases pl
      | ref b => cases pl
      | ty b => cases pl
    · rcases o with hp | hp
      · refine ⟨_, rfl, _, _, _, _, true, rfl, .ty _, .base (.lst hp), kit_ty (by decide +kernel), _, rfl, iteT ?_⟩
        have e0 : xs = [] := List.eq_nil_iff_forall_not_mem.mpr fun x m => dx x m
        subst e0
        refine ⟨_, rfl, p, rfl, ⟨_, .inl (.inl hp)⟩, fun D nD => ?_⟩
        refine lc_list (K := K) (a := p) (xs := []) (fun i H' => Same H H' ∧ H' D = some (.lst [])) ⟨same_new nD, upd_same⟩ (fun i H' _ h => .inl (.inl (h.1 _ _ hp))) ?_ ?_
        · rintro i v H1 hv _
          cases hv
        · rintro H1 ⟨s1, hD⟩
          refine q _ _ s1 (.inr ⟨D, p, [], [], rfl, rfl, .inr ⟨hD, s1 _ _ hp⟩, rfl, lx, fun i y x ey ex => by cases ex⟩) (fun b hb db => ?_)
          exact .inr ⟨D, [], rfl, fun e => hb (by rw [← e]; exact nD), .inl hD, lx, fun y m => absurd m List.not_mem_nil⟩
      · refine ⟨_, rfl, _, _, _, _, false, rfl, .ty _, .base (.tup hp), kit_ty (by decide +kernel), _, rfl, iteF ?_⟩
        refine ⟨_, rfl, _, _, _, _, true, rfl, .ty _, .base (.tup hp), kit_ty (by decide +kernel), _, rfl, iteT ?_⟩
        have e0 : xs = [] := List.eq_nil_iff_forall_not_mem.mpr fun x m => dx x m
        subst e0
        refine ⟨_, rfl, p, rfl, ⟨_, .inl (.inl hp)⟩, fun D nD => ?_⟩
        refine lc_tup (K := K) (a := p) (xs := []) (fun i H' => Same H H' ∧ H' D = some (.lst [])) ⟨same_new nD, upd_same⟩ (fun i H' _ h => .inl (.inl (h.1 _ _ hp))) ?_ ?_
        · rintro i v H1 hv _
          cases hv
        · rintro H1 ⟨s1, hD⟩
          refine ⟨D, _, rfl, .inl ⟨.inl (.inl hD), fun t nt => ?_⟩⟩
          have s3 := s1.trans (same_new (o := .tup []) nt)
          refine q _ _ s3 (.inr ⟨t, p, [], [], rfl, rfl, .inl ⟨upd_same, s3 _ _ hp⟩, rfl, lx, fun i y x ey ex => by cases ex⟩) (fun b hb db => ?_)
          exact .inr ⟨t, [], rfl, fun e => hb (by rw [← e]; exact s1.free nt), .inr upd_same, lx, fun y m => absurd m List.not_mem_nil⟩
theorem copy_step {j n : Nat} (T : Txt K mg base) (G : FnOk P w K mg base CX0 j T.f_copy T.fd_copy ["value"] (sp_copyD n)) :
    FnOk P w K mg base CX0 (j + 1) T.f_copy T.fd_copy ["value"] (sp_copyD (n + 1)) := by
  refine T.F_copy.ok sc_copy (fun vs H Q E h => ?_) (fun cdv A outer s H vs Q E hr h => ?_)
  · obtain ⟨v, rfl, _⟩ := h
    rfl
  · obtain ⟨v, rfl, ⟨a, dv⟩, q⟩ := h
    refine ⟨_, (pss_cons (ps_if (pt_val (pe_callB call_isi (by rfl) T.z_isinstance (by decide +kernel) (pa_cons (pv 0) (pa_cons (pe_bltn (v := .ty "list") (by rfl) T.z_list (by decide +kernel) rfl) pa_nil)))) (pss_one (ps_ret (pe_lc (own := [("item", 1)]) (g := gName 1) rfl sc_copy.nd (pi_list (pv 0)) (blkOk_by (N := ["value", "item"]) (sc := defScope s_copy) (by decide +kernel)) (fun _ _ _ _ _ => pg_name (i := 1) sc_copy.nd rfl (Or.inl rfl)) (fun _ _ _ _ _ => pts_nil) (fun _ _ _ _ _ => (pe_call G (hr.mono (by first | decide | exact Nat.le_refl _)) (by rfl) T.g_copy T.F_copy.kp T.b_copy .nil pass0 (pa_cons (pv 1) pa_nil)))))) pss_nil)
      (pss_cons (ps_if (pt_val (pe_callB call_isi (by rfl) T.z_isinstance (by decide +kernel) (pa_cons (pv 0) (pa_cons (pe_bltn (v := .ty "tuple") (by rfl) T.z_tuple (by decide +kernel) rfl) pa_nil)))) (pss_one (ps_ret (pe_callTy call_tuple_of (by rfl) T.z_tuple (by decide +kernel) (pa_cons (pe_lc (own := [("item", 1)]) (g := gName 1) rfl sc_copy.nd (pi_tup (pv 0)) (blkOk_by (N := ["value", "item"]) (sc := defScope s_copy) (by decide +kernel)) (fun _ _ _ _ _ => pg_name (i := 1) sc_copy.nd rfl (Or.inl rfl)) (fun _ _ _ _ _ => pts_nil) (fun _ _ _ _ _ => (pe_call G (hr.mono (by first | decide | exact Nat.le_refl _)) (by rfl) T.g_copy T.F_copy.kp T.b_copy .nil pass0 (pa_cons (pv 1) pa_nil)))) pa_nil)))) pss_nil)
      (pss_one (ps_ret (pv 0))))), ?_⟩
    rcases dv with ⟨pl, tx, it⟩ | ⟨p, xs, rfl, ne, o, lx, dx⟩
    · have sv : Shal H v := (show Deep a (n + 1) H v from .inl ⟨pl, tx, it⟩).shal
      have done : Q v H := q v H (.refl H) (show Deep a (n + 1) H v from .inl ⟨pl, tx, it⟩).samed (fun b _ d => d)
      cases v with
      | non => exact ⟨_, rfl, _, _, _, _, false, rfl, .ty _, .base .non, kit_ty (by decide +kernel), _, rfl, iteF ⟨_, rfl, _, _, _, _, false, rfl, .ty _, .base .non, kit_ty (by decide +kernel), _, rfl, iteF ⟨_, rfl, done⟩⟩⟩
      | bl b => exact ⟨_, rfl, _, _, _, _, false, rfl, .ty _, .base (.bl b), kit_ty (by decide +kernel), _, rfl, iteF ⟨_, rfl, _, _, _, _, false, rfl, .ty _, .base (.bl b), kit_ty (by decide +kernel), _, rfl, iteF ⟨_, rfl, done⟩⟩⟩
      | int b => exact ⟨_, rfl, _, _, _, _, false, rfl, .ty _, .base (.int b), kit_ty (by decide +kernel), _, rfl, iteF ⟨_, rfl, _, _, _, _, false, rfl, .ty _, .base (.int b), kit_ty (by decide +kernel), _, rfl, iteF ⟨_, rfl, done⟩⟩⟩
      | str b => exact ⟨_, rfl, _, _, _, _, false, rfl, .ty _, .base (.str b), kit_ty (by decide +kernel), _, rfl, iteF ⟨_, rfl, _, _, _, _, false, rfl, .ty _, .base (.str b), kit_ty (by decide +kernel), _, rfl, iteF ⟨_, rfl, done⟩⟩⟩
      | byt b => cases pl
      | flt b => cases pl
      | ref b => cases pl
      | ty b => cases pl
    · rcases o with hp | hp
      · refine ⟨_, rfl, _, _, _, _, true, rfl, .ty _, .base (.lst hp), kit_ty (by decide +kernel), _, rfl, iteT ?_⟩
        refine ⟨_, rfl, p, rfl, ⟨_, .inl (.inl hp)⟩, fun D nD => ?_⟩
        have nDp : D ≠ p := fun e => by
          rw [e, hp] at nD
          cases nD
        refine lc_list (K := K) (a := p) (xs := xs) (fun i H' => CopyI n H D xs i H') ⟨same_new nD, [], upd_same, rfl, fun j x y _ hy => by cases hy⟩ (fun i H' _ h => .inl (.inl (h.1 _ _ hp))) ?_ ?_
        · rintro i v H1 hv ⟨s1, ys, hD, ly, c⟩
          have dv : Deep a n H1 v := (dx v (List.mem_of_getElem? hv)).same s1
          refine ⟨rfl, _, rfl, v, rfl, ⟨a, dv⟩, fun u H2 s2 su du => ?_⟩
          have li : i < xs.length := (List.getElem?_eq_some_iff.mp hv).1
          exact ⟨_, s2 _ _ hD, by rw [ly]; exact Nat.lt_of_lt_of_le (by omega : i < 1000000) (by decide), CopyI.step nD s1 hD ly lx hv dx c s2 su du⟩
        · rintro H1 ⟨s1, ys, hD, ly, c⟩
          refine q _ _ s1 (.inr ⟨D, p, ys, xs, rfl, rfl, .inr ⟨hD, s1 _ _ hp⟩, ly, lx, fun i y x ey ex => (c i x y ex ey).1⟩) (fun b hb db => ?_)
          have dI := (deep_ref db (.inl hp)).2 n rfl
          refine deep_lst (fun e => hb (by rw [← e]; exact nD)) hD (by omega) (fun y my => ?_)
          obtain ⟨i, li, ei⟩ := List.mem_iff_getElem.mp my
          have hy : ys[i]? = some y := by rw [List.getElem?_eq_getElem li, ei]
          have hx : xs[i]? = some xs[i] := List.getElem?_eq_getElem (by omega)
          exact (c i _ y hx hy).2.2 b hb (dI _ (List.getElem_mem _))
      · refine ⟨_, rfl, _, _, _, _, false, rfl, .ty _, .base (.tup hp), kit_ty (by decide +kernel), _, rfl, iteF ?_⟩
        refine ⟨_, rfl, _, _, _, _, true, rfl, .ty _, .base (.tup hp), kit_ty (by decide +kernel), _, rfl, iteT ?_⟩
        refine ⟨_, rfl, p, rfl, ⟨_, .inl (.inl hp)⟩, fun D nD => ?_⟩
        have nDp : D ≠ p := fun e => by
          rw [e, hp] at nD
          cases nD
        refine lc_tup (K := K) (a := p) (xs := xs) (fun i H' => CopyI n H D xs i H') ⟨same_new nD, [], upd_same, rfl, fun j x y _ hy => by cases hy⟩ (fun i H' _ h => .inl (.inl (h.1 _ _ hp))) ?_ ?_
        · rintro i v H1 hv ⟨s1, ys, hD, ly, c⟩
          have dv : Deep a n H1 v := (dx v (List.mem_of_getElem? hv)).same s1
          refine ⟨rfl, _, rfl, v, rfl, ⟨a, dv⟩, fun u H2 s2 su du => ?_⟩
          have li : i < xs.length := (List.getElem?_eq_some_iff.mp hv).1
          exact ⟨_, s2 _ _ hD, by rw [ly]; exact Nat.lt_of_lt_of_le (by omega : i < 1000000) (by decide), CopyI.step nD s1 hD ly lx hv dx c s2 su du⟩
        · rintro H1 ⟨s1, ys, hD, ly, c⟩
          refine ⟨D, _, rfl, .inl ⟨.inl (.inl hD), fun t nt => ?_⟩⟩
          have s3 := s1.trans (same_new (o := .tup ys) nt)
          refine q _ _ s3 (.inr ⟨t, p, ys, xs, rfl, rfl, .inl ⟨upd_same, s3 _ _ hp⟩, ly, lx, fun i y x ey ex => SameD.keep (same_new nt) (c i x y ex ey).1⟩) (fun b hb db => ?_)
          have dI := (deep_ref db (.inr hp)).2 n rfl
          refine deep_tup (fun e => hb (by rw [← e]; exact s1.free nt)) upd_same (by omega) (fun y my => ?_)
          obtain ⟨i, li, ei⟩ := List.mem_iff_getElem.mp my
          have hy : ys[i]? = some y := by rw [List.getElem?_eq_getElem li, ei]
          have hx : xs[i]? = some xs[i] := List.getElem?_eq_getElem (by omega)
          exact ((c i _ y hx hy).2.2 b hb (dI _ (List.getElem_mem _))).same (same_new nt)
theorem ok_copyN (T : Txt K mg base) : ∀ n : Nat, FnOk P w K mg base CX0 (n + 1) T.f_copy T.fd_copy ["value"] (sp_copyD n)
  | 0 => copy_zero T
  | n + 1 => copy_step T (ok_copyN T n)
theorem ok_copy (T : Txt K mg base) : FnOk P w K mg base CX0 10 T.f_copy T.fd_copy ["value"] (sp_copyD 9) := ok_copyN T 9

def RefE [Tabl] {K : PySem.W.Frag} {mg : Str → Option Value} {base : Heap} (T : Txt K mg base) (H : Hp) (D : Addr) (Q : VK) : XK := fun cls d H' => Same (upd H D (.lst [])) H' ∧ ∃ (dd : Addr) (fs : List (Str × V)) (zs : List V), d = some dd ∧ H' dd = some (.xd fs) ∧ RefT T.C_BadLetters T.C_BadNumber T.C_BadEntry T.C_TooLarge cls fs zs ∧ ∀ (t : Addr) (H2 : Hp), Same H H2 → H2 t = some (.tup zs) → Q (.ref t) H2
/-- what is told of a call: None, or what its error was -/
def tRefusal [Tabl] {K : PySem.W.Frag} {mg : Str → Option Value} {base : Heap} (T : Txt K mg base) : (XK → Hp → VK → Prop) → Hp → VK → Prop := fun tl H Q => ∀ D : Addr, H D = none → tl (RefE T H D Q) (upd H D (.lst [])) (fun _ H' => Q .non H')
theorem gives_refusal (T : Txt K mg base) {q : Str} (N : List Str) (qual : Str) (sc : Scope) (fX : Addr) (cdX : Value) (A : Around) (outer : List Env) (s0 : Shared) (H0 : Hp) (E : XK) (cdg : Value) :
    ActGives (cxOf CX0 P w K mg base N qual sc fX cdX A outer s0 H0 E).nox ["action", "told", "e"] "_law_refusal" (defScope s_refusal) T.f_refusal cdg (defBody s_refusal) "action" q (tRefusal T) := by
  intro f c s H Q tl act code h
  refine ⟨_, (pss_cons (ps_set (i := 1) sc_refusal.nd rfl (.inl rfl) (pe_lst pa_nil))
      (pss_cons (ps_try_as (i := 2) (Wout := fun _ _ _ _ => False) rfl rfl sc_refusal.nd rfl rfl ⟨rfl, by decide, Or.inl T.E_LagError.g⟩ LamX.takes0 (fun W pn xe tk _ => body_act act tk) (fun a oe cls d pn hz hf => suite_any hz hf))
      (pss_one (ps_ret pe_non)))), ?_⟩
  refine ⟨by decide, fun D nD => ?_⟩
  refine ⟨_, ?_, rfl, by rw [upd_ne (ne_of_none code nD)]; exact code, h D nD⟩
  rintro cls d H' ⟨sm, dd, fs, zs, rfl, hd, hc, q⟩
  have hD : H' D = some (.lst []) := sm _ _ upd_same
  have ne : dd ≠ D := fun e => by
    rw [e, hD] at hd
    cases hd
  rcases hc with ⟨rfl, v, rfl, rfl⟩ | ⟨rfl, v, rfl, rfl⟩ | ⟨rfl, v, u, rfl, rfl⟩ | ⟨rfl, v, u, rfl, rfl⟩
  · refine ⟨true, T.x_BadLetters_LagError, fun _ a na => ?_, fun z => by cases z⟩
    intro oe pn hz hf
    refine ⟨_, (pss_cons (ps_if (pt_val (pe_callB (call_isD hz hf) (by rfl) T.z_isinstance (by decide +kernel) (pa_cons (pv 2) (pa_cons (pe_glob (v := .ref T.C_BadLetters) (by rfl) T.E_BadLetters.g rfl) pa_nil)))) (pss_one (ps_expr (pe_bm PySem.F.plainAttrs_list PySem.F.slot_list_append PySem.F.type_list_append mt_append (pv 1) (pa_cons (pe_tup (pa_cons pe_str (pa_cons (by exact pe_xf T.E_BadLetters.f T.no_BadLetters_value hz hf (pv 2)) pa_nil))) pa_nil)))) pss_nil)
      (pss_cons (ps_if (pt_val (pe_callB (call_isD hz hf) (by rfl) T.z_isinstance (by decide +kernel) (pa_cons (pv 2) (pa_cons (pe_glob (v := .ref T.C_BadNumber) (by rfl) T.E_BadNumber.g rfl) pa_nil)))) (pss_one (ps_expr (pe_bm PySem.F.plainAttrs_list PySem.F.slot_list_append PySem.F.type_list_append mt_append (pv 1) (pa_cons (pe_tup (pa_cons pe_str (pa_cons (by exact pe_xf T.E_BadNumber.f T.no_BadNumber_value hz hf (pv 2)) pa_nil))) pa_nil)))) pss_nil)
      (pss_cons (ps_if (pt_val (pe_callB (call_isD hz hf) (by rfl) T.z_isinstance (by decide +kernel) (pa_cons (pv 2) (pa_cons (pe_glob (v := .ref T.C_BadEntry) (by rfl) T.E_BadEntry.g rfl) pa_nil)))) (pss_one (ps_expr (pe_bm PySem.F.plainAttrs_list PySem.F.slot_list_append PySem.F.type_list_append mt_append (pv 1) (pa_cons (pe_tup (pa_cons pe_str (pa_cons (by exact pe_xf T.E_BadEntry.f T.no_BadEntry_place hz hf (pv 2)) (pa_cons (by exact pe_xf T.E_BadEntry.f T.no_BadEntry_index hz hf (pv 2)) pa_nil)))) pa_nil)))) pss_nil)
      (pss_cons (ps_if (pt_val (pe_callB (call_isD hz hf) (by rfl) T.z_isinstance (by decide +kernel) (pa_cons (pv 2) (pa_cons (pe_glob (v := .ref T.C_TooLarge) (by rfl) T.E_TooLarge.g rfl) pa_nil)))) (pss_one (ps_expr (pe_bm PySem.F.plainAttrs_list PySem.F.slot_list_append PySem.F.type_list_append mt_append (pv 1) (pa_cons (pe_tup (pa_cons pe_str (pa_cons (by exact pe_xf T.E_TooLarge.f T.no_TooLarge_what hz hf (pv 2)) (pa_cons (by exact pe_xf T.E_TooLarge.f T.no_TooLarge_limit hz hf (pv 2)) pa_nil)))) pa_nil)))) pss_nil)
      (pss_cons (ps_if (PW.pt (pw_or (pt_val (pe_callB (call_isD hz hf) (by rfl) T.z_isinstance (by decide +kernel) (pa_cons (pv 2) (pa_cons (pe_glob (v := .ref T.C_BadWord) (by rfl) T.E_BadWord.g rfl) pa_nil)))) (pw_or (pt_val (pe_callB (call_isD hz hf) (by rfl) T.z_isinstance (by decide +kernel) (pa_cons (pv 2) (pa_cons (pe_glob (v := .ref T.C_BadName) (by rfl) T.E_BadName.g rfl) pa_nil)))) (pw_or (pt_val (pe_callB (call_isD hz hf) (by rfl) T.z_isinstance (by decide +kernel) (pa_cons (pv 2) (pa_cons (pe_glob (v := .ref T.C_BadLine) (by rfl) T.E_BadLine.g rfl) pa_nil)))) (pw_or1 (pt_val (pe_callB (call_isD hz hf) (by rfl) T.z_isinstance (by decide +kernel) (pa_cons (pv 2) (pa_cons (pe_glob (v := .ref T.C_Mismatch) (by rfl) T.E_Mismatch.g rfl) pa_nil))))))))) (pss_one (ps_expr (pe_bm PySem.F.plainAttrs_list PySem.F.slot_list_append PySem.F.type_list_append mt_append (pv 1) (pa_cons (pe_tup (pa_cons pe_str (pa_cons pe_int pa_nil))) pa_nil)))) pss_nil)
      (pss_cons (ps_if (PW.pt (pw_or (pt_cmpR op_ne (pe_callB call_len_seq (by rfl) T.z_len PySem.boot_len (pa_cons (pv 1) pa_nil)) pe_int (nomark _)) (pw_or1 (pt_not (pt_val (pe_callB (call_isD hz hf) (by rfl) T.z_isinstance (by decide +kernel) (pa_cons (pv 2) (pa_cons (pe_bltn (v := .ty "ValueError") (by rfl) T.z_ValueError (by decide +kernel) rfl) pa_nil)))))))) (pss_one (ps_ret (pe_tup (pa_cons pe_str (pa_cons (pe_callB call_len_seq (by rfl) T.z_len PySem.boot_len (pa_cons (pv 1) pa_nil)) pa_nil))))) pss_nil)
      (pss_one (ps_ret (pe_ix ix_list (pv 1) pe_int (fun _ _ => rfl)))))))))), ?_⟩
    refine ⟨_, rfl, _, _, _, true, rfl, T.E_BadLetters.i, rfl, fun u r => r, fun x e => ⟨_, by cases e; exact hd⟩, T.k_BadLetters_BadLetters, _, rfl, iteT ?_⟩
    refine ⟨_, rfl, .inl ⟨rfl, _, .inl (.inl hD)⟩, _, rfl, rfl, rfl, dd, _, v, rfl, hd, rfl, by show 2 ≤ sizeLine; decide, fun t nt => ?_⟩
    have hD2 : (upd H' t (.tup [.str (Str.ofString "BadLetters"), v])) D = some (.lst []) := same_new nt _ _ hD
    refine ⟨D, _, _, rfl, rfl, hD2, by show 0 < sizeLine; decide, ?_⟩
    have tD : t ≠ D := fun e => by
      rw [e, hD] at nt
      cases nt
    have hd3 : (upd (upd H' t (.tup [.str (Str.ofString "BadLetters"), v])) D (.lst [.ref t])) dd = some (.xd [("value", v)]) := by
      rw [upd_ne ne]
      exact same_new nt _ _ hd
    have hD3 : (upd (upd H' t (.tup [.str (Str.ofString "BadLetters"), v])) D (.lst [.ref t])) D = some (.lst [.ref t]) := upd_same
    have ht3 : (upd (upd H' t (.tup [.str (Str.ofString "BadLetters"), v])) D (.lst [.ref t])) t = some (.tup [.str (Str.ofString "BadLetters"), v]) := by
      rw [upd_ne tD, upd_same]
    have sm3 : Same H (upd (upd H' t (.tup [.str (Str.ofString "BadLetters"), v])) D (.lst [.ref t])) := (Same.refl H).grown nD (((same_new nD).trans sm).trans (same_new nt)) hD2
    refine ⟨_, rfl, _, _, _, false, rfl, T.E_BadLetters.i, rfl, fun u r => r, fun x e => ⟨_, by cases e; exact hd3⟩, T.k_BadLetters_BadNumber, _, rfl, iteF ?_⟩
    refine ⟨_, rfl, _, _, _, false, rfl, T.E_BadLetters.i, rfl, fun u r => r, fun x e => ⟨_, by cases e; exact hd3⟩, T.k_BadLetters_BadEntry, _, rfl, iteF ?_⟩
    refine ⟨_, rfl, _, _, _, false, rfl, T.E_BadLetters.i, rfl, fun u r => r, fun x e => ⟨_, by cases e; exact hd3⟩, T.k_BadLetters_TooLarge, _, rfl, iteF ?_⟩
    refine ⟨_, rfl, _, _, _, false, rfl, T.E_BadLetters.i, rfl, fun u r => r, fun x e => ⟨_, by cases e; exact hd3⟩, T.k_BadLetters_BadWord, _, rfl, iteF ?_⟩
    refine ⟨_, rfl, _, _, _, false, rfl, T.E_BadLetters.i, rfl, fun u r => r, fun x e => ⟨_, by cases e; exact hd3⟩, T.k_BadLetters_BadName, _, rfl, iteF ?_⟩
    refine ⟨_, rfl, _, _, _, false, rfl, T.E_BadLetters.i, rfl, fun u r => r, fun x e => ⟨_, by cases e; exact hd3⟩, T.k_BadLetters_BadLine, _, rfl, iteF ?_⟩
    refine ⟨_, rfl, _, _, _, false, rfl, T.E_BadLetters.i, rfl, fun u r => r, fun x e => ⟨_, by cases e; exact hd3⟩, T.k_BadLetters_Mismatch, _, rfl, iteF ?_⟩
    refine ⟨.ref D, rfl, _, _, rfl, .inl (.inl (.inl hD3)), rfl, _, rfl, iteN rfl ?_⟩
    refine ⟨_, rfl, _, _, _, true, rfl, T.E_BadLetters.i, rfl, fun u r => r, fun x e => ⟨_, by cases e; exact hd3⟩, T.k_BadLetters_ValueError, _, rfl, iteF ?_⟩
    exact ⟨.ref D, rfl, _, _, _, _, rfl, rfl, .inl (.inl hD3), rfl, q t _ sm3 ht3⟩
  · refine ⟨true, T.x_BadNumber_LagError, fun _ a na => ?_, fun z => by cases z⟩
    intro oe pn hz hf
    refine ⟨_, (pss_cons (ps_if (pt_val (pe_callB (call_isD hz hf) (by rfl) T.z_isinstance (by decide +kernel) (pa_cons (pv 2) (pa_cons (pe_glob (v := .ref T.C_BadLetters) (by rfl) T.E_BadLetters.g rfl) pa_nil)))) (pss_one (ps_expr (pe_bm PySem.F.plainAttrs_list PySem.F.slot_list_append PySem.F.type_list_append mt_append (pv 1) (pa_cons (pe_tup (pa_cons pe_str (pa_cons (by exact pe_xf T.E_BadLetters.f T.no_BadLetters_value hz hf (pv 2)) pa_nil))) pa_nil)))) pss_nil)
      (pss_cons (ps_if (pt_val (pe_callB (call_isD hz hf) (by rfl) T.z_isinstance (by decide +kernel) (pa_cons (pv 2) (pa_cons (pe_glob (v := .ref T.C_BadNumber) (by rfl) T.E_BadNumber.g rfl) pa_nil)))) (pss_one (ps_expr (pe_bm PySem.F.plainAttrs_list PySem.F.slot_list_append PySem.F.type_list_append mt_append (pv 1) (pa_cons (pe_tup (pa_cons pe_str (pa_cons (by exact pe_xf T.E_BadNumber.f T.no_BadNumber_value hz hf (pv 2)) pa_nil))) pa_nil)))) pss_nil)
      (pss_cons (ps_if (pt_val (pe_callB (call_isD hz hf) (by rfl) T.z_isinstance (by decide +kernel) (pa_cons (pv 2) (pa_cons (pe_glob (v := .ref T.C_BadEntry) (by rfl) T.E_BadEntry.g rfl) pa_nil)))) (pss_one (ps_expr (pe_bm PySem.F.plainAttrs_list PySem.F.slot_list_append PySem.F.type_list_append mt_append (pv 1) (pa_cons (pe_tup (pa_cons pe_str (pa_cons (by exact pe_xf T.E_BadEntry.f T.no_BadEntry_place hz hf (pv 2)) (pa_cons (by exact pe_xf T.E_BadEntry.f T.no_BadEntry_index hz hf (pv 2)) pa_nil)))) pa_nil)))) pss_nil)
      (pss_cons (ps_if (pt_val (pe_callB (call_isD hz hf) (by rfl) T.z_isinstance (by decide +kernel) (pa_cons (pv 2) (pa_cons (pe_glob (v := .ref T.C_TooLarge) (by rfl) T.E_TooLarge.g rfl) pa_nil)))) (pss_one (ps_expr (pe_bm PySem.F.plainAttrs_list PySem.F.slot_list_append PySem.F.type_list_append mt_append (pv 1) (pa_cons (pe_tup (pa_cons pe_str (pa_cons (by exact pe_xf T.E_TooLarge.f T.no_TooLarge_what hz hf (pv 2)) (pa_cons (by exact pe_xf T.E_TooLarge.f T.no_TooLarge_limit hz hf (pv 2)) pa_nil)))) pa_nil)))) pss_nil)
      (pss_cons (ps_if (PW.pt (pw_or (pt_val (pe_callB (call_isD hz hf) (by rfl) T.z_isinstance (by decide +kernel) (pa_cons (pv 2) (pa_cons (pe_glob (v := .ref T.C_BadWord) (by rfl) T.E_BadWord.g rfl) pa_nil)))) (pw_or (pt_val (pe_callB (call_isD hz hf) (by rfl) T.z_isinstance (by decide +kernel) (pa_cons (pv 2) (pa_cons (pe_glob (v := .ref T.C_BadName) (by rfl) T.E_BadName.g rfl) pa_nil)))) (pw_or (pt_val (pe_callB (call_isD hz hf) (by rfl) T.z_isinstance (by decide +kernel) (pa_cons (pv 2) (pa_cons (pe_glob (v := .ref T.C_BadLine) (by rfl) T.E_BadLine.g rfl) pa_nil)))) (pw_or1 (pt_val (pe_callB (call_isD hz hf) (by rfl) T.z_isinstance (by decide +kernel) (pa_cons (pv 2) (pa_cons (pe_glob (v := .ref T.C_Mismatch) (by rfl) T.E_Mismatch.g rfl) pa_nil))))))))) (pss_one (ps_expr (pe_bm PySem.F.plainAttrs_list PySem.F.slot_list_append PySem.F.type_list_append mt_append (pv 1) (pa_cons (pe_tup (pa_cons pe_str (pa_cons pe_int pa_nil))) pa_nil)))) pss_nil)
      (pss_cons (ps_if (PW.pt (pw_or (pt_cmpR op_ne (pe_callB call_len_seq (by rfl) T.z_len PySem.boot_len (pa_cons (pv 1) pa_nil)) pe_int (nomark _)) (pw_or1 (pt_not (pt_val (pe_callB (call_isD hz hf) (by rfl) T.z_isinstance (by decide +kernel) (pa_cons (pv 2) (pa_cons (pe_bltn (v := .ty "ValueError") (by rfl) T.z_ValueError (by decide +kernel) rfl) pa_nil)))))))) (pss_one (ps_ret (pe_tup (pa_cons pe_str (pa_cons (pe_callB call_len_seq (by rfl) T.z_len PySem.boot_len (pa_cons (pv 1) pa_nil)) pa_nil))))) pss_nil)
      (pss_one (ps_ret (pe_ix ix_list (pv 1) pe_int (fun _ _ => rfl)))))))))), ?_⟩
    refine ⟨_, rfl, _, _, _, false, rfl, T.E_BadNumber.i, rfl, fun u r => r, fun x e => ⟨_, by cases e; exact hd⟩, T.k_BadNumber_BadLetters, _, rfl, iteF ?_⟩
    refine ⟨_, rfl, _, _, _, true, rfl, T.E_BadNumber.i, rfl, fun u r => r, fun x e => ⟨_, by cases e; exact hd⟩, T.k_BadNumber_BadNumber, _, rfl, iteT ?_⟩
    refine ⟨_, rfl, .inl ⟨rfl, _, .inl (.inl hD)⟩, _, rfl, rfl, rfl, dd, _, v, rfl, hd, rfl, by show 2 ≤ sizeLine; decide, fun t nt => ?_⟩
    have hD2 : (upd H' t (.tup [.str (Str.ofString "BadNumber"), v])) D = some (.lst []) := same_new nt _ _ hD
    refine ⟨D, _, _, rfl, rfl, hD2, by show 0 < sizeLine; decide, ?_⟩
    have tD : t ≠ D := fun e => by
      rw [e, hD] at nt
      cases nt
    have hd3 : (upd (upd H' t (.tup [.str (Str.ofString "BadNumber"), v])) D (.lst [.ref t])) dd = some (.xd [("value", v)]) := by
      rw [upd_ne ne]
      exact same_new nt _ _ hd
    have hD3 : (upd (upd H' t (.tup [.str (Str.ofString "BadNumber"), v])) D (.lst [.ref t])) D = some (.lst [.ref t]) := upd_same
    have ht3 : (upd (upd H' t (.tup [.str (Str.ofString "BadNumber"), v])) D (.lst [.ref t])) t = some (.tup [.str (Str.ofString "BadNumber"), v]) := by
      rw [upd_ne tD, upd_same]
    have sm3 : Same H (upd (upd H' t (.tup [.str (Str.ofString "BadNumber"), v])) D (.lst [.ref t])) := (Same.refl H).grown nD (((same_new nD).trans sm).trans (same_new nt)) hD2
    refine ⟨_, rfl, _, _, _, false, rfl, T.E_BadNumber.i, rfl, fun u r => r, fun x e => ⟨_, by cases e; exact hd3⟩, T.k_BadNumber_BadEntry, _, rfl, iteF ?_⟩
    refine ⟨_, rfl, _, _, _, false, rfl, T.E_BadNumber.i, rfl, fun u r => r, fun x e => ⟨_, by cases e; exact hd3⟩, T.k_BadNumber_TooLarge, _, rfl, iteF ?_⟩
    refine ⟨_, rfl, _, _, _, false, rfl, T.E_BadNumber.i, rfl, fun u r => r, fun x e => ⟨_, by cases e; exact hd3⟩, T.k_BadNumber_BadWord, _, rfl, iteF ?_⟩
    refine ⟨_, rfl, _, _, _, false, rfl, T.E_BadNumber.i, rfl, fun u r => r, fun x e => ⟨_, by cases e; exact hd3⟩, T.k_BadNumber_BadName, _, rfl, iteF ?_⟩
    refine ⟨_, rfl, _, _, _, false, rfl, T.E_BadNumber.i, rfl, fun u r => r, fun x e => ⟨_, by cases e; exact hd3⟩, T.k_BadNumber_BadLine, _, rfl, iteF ?_⟩
    refine ⟨_, rfl, _, _, _, false, rfl, T.E_BadNumber.i, rfl, fun u r => r, fun x e => ⟨_, by cases e; exact hd3⟩, T.k_BadNumber_Mismatch, _, rfl, iteF ?_⟩
    refine ⟨.ref D, rfl, _, _, rfl, .inl (.inl (.inl hD3)), rfl, _, rfl, iteN rfl ?_⟩
    refine ⟨_, rfl, _, _, _, true, rfl, T.E_BadNumber.i, rfl, fun u r => r, fun x e => ⟨_, by cases e; exact hd3⟩, T.k_BadNumber_ValueError, _, rfl, iteF ?_⟩
    exact ⟨.ref D, rfl, _, _, _, _, rfl, rfl, .inl (.inl hD3), rfl, q t _ sm3 ht3⟩
  · refine ⟨true, T.x_BadEntry_LagError, fun _ a na => ?_, fun z => by cases z⟩
    intro oe pn hz hf
    refine ⟨_, (pss_cons (ps_if (pt_val (pe_callB (call_isD hz hf) (by rfl) T.z_isinstance (by decide +kernel) (pa_cons (pv 2) (pa_cons (pe_glob (v := .ref T.C_BadLetters) (by rfl) T.E_BadLetters.g rfl) pa_nil)))) (pss_one (ps_expr (pe_bm PySem.F.plainAttrs_list PySem.F.slot_list_append PySem.F.type_list_append mt_append (pv 1) (pa_cons (pe_tup (pa_cons pe_str (pa_cons (by exact pe_xf T.E_BadLetters.f T.no_BadLetters_value hz hf (pv 2)) pa_nil))) pa_nil)))) pss_nil)
      (pss_cons (ps_if (pt_val (pe_callB (call_isD hz hf) (by rfl) T.z_isinstance (by decide +kernel) (pa_cons (pv 2) (pa_cons (pe_glob (v := .ref T.C_BadNumber) (by rfl) T.E_BadNumber.g rfl) pa_nil)))) (pss_one (ps_expr (pe_bm PySem.F.plainAttrs_list PySem.F.slot_list_append PySem.F.type_list_append mt_append (pv 1) (pa_cons (pe_tup (pa_cons pe_str (pa_cons (by exact pe_xf T.E_BadNumber.f T.no_BadNumber_value hz hf (pv 2)) pa_nil))) pa_nil)))) pss_nil)
      (pss_cons (ps_if (pt_val (pe_callB (call_isD hz hf) (by rfl) T.z_isinstance (by decide +kernel) (pa_cons (pv 2) (pa_cons (pe_glob (v := .ref T.C_BadEntry) (by rfl) T.E_BadEntry.g rfl) pa_nil)))) (pss_one (ps_expr (pe_bm PySem.F.plainAttrs_list PySem.F.slot_list_append PySem.F.type_list_append mt_append (pv 1) (pa_cons (pe_tup (pa_cons pe_str (pa_cons (by exact pe_xf T.E_BadEntry.f T.no_BadEntry_place hz hf (pv 2)) (pa_cons (by exact pe_xf T.E_BadEntry.f T.no_BadEntry_index hz hf (pv 2)) pa_nil)))) pa_nil)))) pss_nil)
      (pss_cons (ps_if (pt_val (pe_callB (call_isD hz hf) (by rfl) T.z_isinstance (by decide +kernel) (pa_cons (pv 2) (pa_cons (pe_glob (v := .ref T.C_TooLarge) (by rfl) T.E_TooLarge.g rfl) pa_nil)))) (pss_one (ps_expr (pe_bm PySem.F.plainAttrs_list PySem.F.slot_list_append PySem.F.type_list_append mt_append (pv 1) (pa_cons (pe_tup (pa_cons pe_str (pa_cons (by exact pe_xf T.E_TooLarge.f T.no_TooLarge_what hz hf (pv 2)) (pa_cons (by exact pe_xf T.E_TooLarge.f T.no_TooLarge_limit hz hf (pv 2)) pa_nil)))) pa_nil)))) pss_nil)
      (pss_cons (ps_if (PW.pt (pw_or (pt_val (pe_callB (call_isD hz hf) (by rfl) T.z_isinstance (by decide +kernel) (pa_cons (pv 2) (pa_cons (pe_glob (v := .ref T.C_BadWord) (by rfl) T.E_BadWord.g rfl) pa_nil)))) (pw_or (pt_val (pe_callB (call_isD hz hf) (by rfl) T.z_isinstance (by decide +kernel) (pa_cons (pv 2) (pa_cons (pe_glob (v := .ref T.C_BadName) (by rfl) T.E_BadName.g rfl) pa_nil)))) (pw_or (pt_val (pe_callB (call_isD hz hf) (by rfl) T.z_isinstance (by decide +kernel) (pa_cons (pv 2) (pa_cons (pe_glob (v := .ref T.C_BadLine) (by rfl) T.E_BadLine.g rfl) pa_nil)))) (pw_or1 (pt_val (pe_callB (call_isD hz hf) (by rfl) T.z_isinstance (by decide +kernel) (pa_cons (pv 2) (pa_cons (pe_glob (v := .ref T.C_Mismatch) (by rfl) T.E_Mismatch.g rfl) pa_nil))))))))) (pss_one (ps_expr (pe_bm PySem.F.plainAttrs_list PySem.F.slot_list_append PySem.F.type_list_append mt_append (pv 1) (pa_cons (pe_tup (pa_cons pe_str (pa_cons pe_int pa_nil))) pa_nil)))) pss_nil)
      (pss_cons (ps_if (PW.pt (pw_or (pt_cmpR op_ne (pe_callB call_len_seq (by rfl) T.z_len PySem.boot_len (pa_cons (pv 1) pa_nil)) pe_int (nomark _)) (pw_or1 (pt_not (pt_val (pe_callB (call_isD hz hf) (by rfl) T.z_isinstance (by decide +kernel) (pa_cons (pv 2) (pa_cons (pe_bltn (v := .ty "ValueError") (by rfl) T.z_ValueError (by decide +kernel) rfl) pa_nil)))))))) (pss_one (ps_ret (pe_tup (pa_cons pe_str (pa_cons (pe_callB call_len_seq (by rfl) T.z_len PySem.boot_len (pa_cons (pv 1) pa_nil)) pa_nil))))) pss_nil)
      (pss_one (ps_ret (pe_ix ix_list (pv 1) pe_int (fun _ _ => rfl)))))))))), ?_⟩
    refine ⟨_, rfl, _, _, _, false, rfl, T.E_BadEntry.i, rfl, fun u r => r, fun x e => ⟨_, by cases e; exact hd⟩, T.k_BadEntry_BadLetters, _, rfl, iteF ?_⟩
    refine ⟨_, rfl, _, _, _, false, rfl, T.E_BadEntry.i, rfl, fun u r => r, fun x e => ⟨_, by cases e; exact hd⟩, T.k_BadEntry_BadNumber, _, rfl, iteF ?_⟩
    refine ⟨_, rfl, _, _, _, true, rfl, T.E_BadEntry.i, rfl, fun u r => r, fun x e => ⟨_, by cases e; exact hd⟩, T.k_BadEntry_BadEntry, _, rfl, iteT ?_⟩
    refine ⟨_, rfl, .inl ⟨rfl, _, .inl (.inl hD)⟩, _, rfl, rfl, rfl, dd, _, v, rfl, hd, lookup2 (by decide +kernel), _, rfl, rfl, rfl, dd, _, u, rfl, hd, rfl, by show 3 ≤ sizeLine; decide, fun t nt => ?_⟩
    have hD2 : (upd H' t (.tup [.str (Str.ofString "BadEntry"), v, u])) D = some (.lst []) := same_new nt _ _ hD
    refine ⟨D, _, _, rfl, rfl, hD2, by show 0 < sizeLine; decide, ?_⟩
    have tD : t ≠ D := fun e => by
      rw [e, hD] at nt
      cases nt
    have hd3 : (upd (upd H' t (.tup [.str (Str.ofString "BadEntry"), v, u])) D (.lst [.ref t])) dd = some (.xd [("index", u), ("place", v)]) := by
      rw [upd_ne ne]
      exact same_new nt _ _ hd
    have hD3 : (upd (upd H' t (.tup [.str (Str.ofString "BadEntry"), v, u])) D (.lst [.ref t])) D = some (.lst [.ref t]) := upd_same
    have ht3 : (upd (upd H' t (.tup [.str (Str.ofString "BadEntry"), v, u])) D (.lst [.ref t])) t = some (.tup [.str (Str.ofString "BadEntry"), v, u]) := by
      rw [upd_ne tD, upd_same]
    have sm3 : Same H (upd (upd H' t (.tup [.str (Str.ofString "BadEntry"), v, u])) D (.lst [.ref t])) := (Same.refl H).grown nD (((same_new nD).trans sm).trans (same_new nt)) hD2
    refine ⟨_, rfl, _, _, _, false, rfl, T.E_BadEntry.i, rfl, fun u r => r, fun x e => ⟨_, by cases e; exact hd3⟩, T.k_BadEntry_TooLarge, _, rfl, iteF ?_⟩
    refine ⟨_, rfl, _, _, _, false, rfl, T.E_BadEntry.i, rfl, fun u r => r, fun x e => ⟨_, by cases e; exact hd3⟩, T.k_BadEntry_BadWord, _, rfl, iteF ?_⟩
    refine ⟨_, rfl, _, _, _, false, rfl, T.E_BadEntry.i, rfl, fun u r => r, fun x e => ⟨_, by cases e; exact hd3⟩, T.k_BadEntry_BadName, _, rfl, iteF ?_⟩
    refine ⟨_, rfl, _, _, _, false, rfl, T.E_BadEntry.i, rfl, fun u r => r, fun x e => ⟨_, by cases e; exact hd3⟩, T.k_BadEntry_BadLine, _, rfl, iteF ?_⟩
    refine ⟨_, rfl, _, _, _, false, rfl, T.E_BadEntry.i, rfl, fun u r => r, fun x e => ⟨_, by cases e; exact hd3⟩, T.k_BadEntry_Mismatch, _, rfl, iteF ?_⟩
    refine ⟨.ref D, rfl, _, _, rfl, .inl (.inl (.inl hD3)), rfl, _, rfl, iteN rfl ?_⟩
    refine ⟨_, rfl, _, _, _, true, rfl, T.E_BadEntry.i, rfl, fun u r => r, fun x e => ⟨_, by cases e; exact hd3⟩, T.k_BadEntry_ValueError, _, rfl, iteF ?_⟩
    exact ⟨.ref D, rfl, _, _, _, _, rfl, rfl, .inl (.inl hD3), rfl, q t _ sm3 ht3⟩
  · refine ⟨true, T.x_TooLarge_LagError, fun _ a na => ?_, fun z => by cases z⟩
    intro oe pn hz hf
    refine ⟨_, (pss_cons (ps_if (pt_val (pe_callB (call_isD hz hf) (by rfl) T.z_isinstance (by decide +kernel) (pa_cons (pv 2) (pa_cons (pe_glob (v := .ref T.C_BadLetters) (by rfl) T.E_BadLetters.g rfl) pa_nil)))) (pss_one (ps_expr (pe_bm PySem.F.plainAttrs_list PySem.F.slot_list_append PySem.F.type_list_append mt_append (pv 1) (pa_cons (pe_tup (pa_cons pe_str (pa_cons (by exact pe_xf T.E_BadLetters.f T.no_BadLetters_value hz hf (pv 2)) pa_nil))) pa_nil)))) pss_nil)
      (pss_cons (ps_if (pt_val (pe_callB (call_isD hz hf) (by rfl) T.z_isinstance (by decide +kernel) (pa_cons (pv 2) (pa_cons (pe_glob (v := .ref T.C_BadNumber) (by rfl) T.E_BadNumber.g rfl) pa_nil)))) (pss_one (ps_expr (pe_bm PySem.F.plainAttrs_list PySem.F.slot_list_append PySem.F.type_list_append mt_append (pv 1) (pa_cons (pe_tup (pa_cons pe_str (pa_cons (by exact pe_xf T.E_BadNumber.f T.no_BadNumber_value hz hf (pv 2)) pa_nil))) pa_nil)))) pss_nil)
      (pss_cons (ps_if (pt_val (pe_callB (call_isD hz hf) (by rfl) T.z_isinstance (by decide +kernel) (pa_cons (pv 2) (pa_cons (pe_glob (v := .ref T.C_BadEntry) (by rfl) T.E_BadEntry.g rfl) pa_nil)))) (pss_one (ps_expr (pe_bm PySem.F.plainAttrs_list PySem.F.slot_list_append PySem.F.type_list_append mt_append (pv 1) (pa_cons (pe_tup (pa_cons pe_str (pa_cons (by exact pe_xf T.E_BadEntry.f T.no_BadEntry_place hz hf (pv 2)) (pa_cons (by exact pe_xf T.E_BadEntry.f T.no_BadEntry_index hz hf (pv 2)) pa_nil)))) pa_nil)))) pss_nil)
      (pss_cons (ps_if (pt_val (pe_callB (call_isD hz hf) (by rfl) T.z_isinstance (by decide +kernel) (pa_cons (pv 2) (pa_cons (pe_glob (v := .ref T.C_TooLarge) (by rfl) T.E_TooLarge.g rfl) pa_nil)))) (pss_one (ps_expr (pe_bm PySem.F.plainAttrs_list PySem.F.slot_list_append PySem.F.type_list_append mt_append (pv 1) (pa_cons (pe_tup (pa_cons pe_str (pa_cons (by exact pe_xf T.E_TooLarge.f T.no_TooLarge_what hz hf (pv 2)) (pa_cons (by exact pe_xf T.E_TooLarge.f T.no_TooLarge_limit hz hf (pv 2)) pa_nil)))) pa_nil)))) pss_nil)
      (pss_cons (ps_if (PW.pt (pw_or (pt_val (pe_callB (call_isD hz hf) (by rfl) T.z_isinstance (by decide +kernel) (pa_cons (pv 2) (pa_cons (pe_glob (v := .ref T.C_BadWord) (by rfl) T.E_BadWord.g rfl) pa_nil)))) (pw_or (pt_val (pe_callB (call_isD hz hf) (by rfl) T.z_isinstance (by decide +kernel) (pa_cons (pv 2) (pa_cons (pe_glob (v := .ref T.C_BadName) (by rfl) T.E_BadName.g rfl) pa_nil)))) (pw_or (pt_val (pe_callB (call_isD hz hf) (by rfl) T.z_isinstance (by decide +kernel) (pa_cons (pv 2) (pa_cons (pe_glob (v := .ref T.C_BadLine) (by rfl) T.E_BadLine.g rfl) pa_nil)))) (pw_or1 (pt_val (pe_callB (call_isD hz hf) (by rfl) T.z_isinstance (by decide +kernel) (pa_cons (pv 2) (pa_cons (pe_glob (v := .ref T.C_Mismatch) (by rfl) T.E_Mismatch.g rfl) pa_nil))))))))) (pss_one (ps_expr (pe_bm PySem.F.plainAttrs_list PySem.F.slot_list_append PySem.F.type_list_append mt_append (pv 1) (pa_cons (pe_tup (pa_cons pe_str (pa_cons pe_int pa_nil))) pa_nil)))) pss_nil)
      (pss_cons (ps_if (PW.pt (pw_or (pt_cmpR op_ne (pe_callB call_len_seq (by rfl) T.z_len PySem.boot_len (pa_cons (pv 1) pa_nil)) pe_int (nomark _)) (pw_or1 (pt_not (pt_val (pe_callB (call_isD hz hf) (by rfl) T.z_isinstance (by decide +kernel) (pa_cons (pv 2) (pa_cons (pe_bltn (v := .ty "ValueError") (by rfl) T.z_ValueError (by decide +kernel) rfl) pa_nil)))))))) (pss_one (ps_ret (pe_tup (pa_cons pe_str (pa_cons (pe_callB call_len_seq (by rfl) T.z_len PySem.boot_len (pa_cons (pv 1) pa_nil)) pa_nil))))) pss_nil)
      (pss_one (ps_ret (pe_ix ix_list (pv 1) pe_int (fun _ _ => rfl)))))))))), ?_⟩
    refine ⟨_, rfl, _, _, _, false, rfl, T.E_TooLarge.i, rfl, fun u r => r, fun x e => ⟨_, by cases e; exact hd⟩, T.k_TooLarge_BadLetters, _, rfl, iteF ?_⟩
    refine ⟨_, rfl, _, _, _, false, rfl, T.E_TooLarge.i, rfl, fun u r => r, fun x e => ⟨_, by cases e; exact hd⟩, T.k_TooLarge_BadNumber, _, rfl, iteF ?_⟩
    refine ⟨_, rfl, _, _, _, false, rfl, T.E_TooLarge.i, rfl, fun u r => r, fun x e => ⟨_, by cases e; exact hd⟩, T.k_TooLarge_BadEntry, _, rfl, iteF ?_⟩
    refine ⟨_, rfl, _, _, _, true, rfl, T.E_TooLarge.i, rfl, fun u r => r, fun x e => ⟨_, by cases e; exact hd⟩, T.k_TooLarge_TooLarge, _, rfl, iteT ?_⟩
    refine ⟨_, rfl, .inl ⟨rfl, _, .inl (.inl hD)⟩, _, rfl, rfl, rfl, dd, _, v, rfl, hd, lookup2 (by decide +kernel), _, rfl, rfl, rfl, dd, _, u, rfl, hd, rfl, by show 3 ≤ sizeLine; decide, fun t nt => ?_⟩
    have hD2 : (upd H' t (.tup [.str (Str.ofString "TooLarge"), v, u])) D = some (.lst []) := same_new nt _ _ hD
    refine ⟨D, _, _, rfl, rfl, hD2, by show 0 < sizeLine; decide, ?_⟩
    have tD : t ≠ D := fun e => by
      rw [e, hD] at nt
      cases nt
    have hd3 : (upd (upd H' t (.tup [.str (Str.ofString "TooLarge"), v, u])) D (.lst [.ref t])) dd = some (.xd [("limit", u), ("what", v)]) := by
      rw [upd_ne ne]
      exact same_new nt _ _ hd
    have hD3 : (upd (upd H' t (.tup [.str (Str.ofString "TooLarge"), v, u])) D (.lst [.ref t])) D = some (.lst [.ref t]) := upd_same
    have ht3 : (upd (upd H' t (.tup [.str (Str.ofString "TooLarge"), v, u])) D (.lst [.ref t])) t = some (.tup [.str (Str.ofString "TooLarge"), v, u]) := by
      rw [upd_ne tD, upd_same]
    have sm3 : Same H (upd (upd H' t (.tup [.str (Str.ofString "TooLarge"), v, u])) D (.lst [.ref t])) := (Same.refl H).grown nD (((same_new nD).trans sm).trans (same_new nt)) hD2
    refine ⟨_, rfl, _, _, _, false, rfl, T.E_TooLarge.i, rfl, fun u r => r, fun x e => ⟨_, by cases e; exact hd3⟩, T.k_TooLarge_BadWord, _, rfl, iteF ?_⟩
    refine ⟨_, rfl, _, _, _, false, rfl, T.E_TooLarge.i, rfl, fun u r => r, fun x e => ⟨_, by cases e; exact hd3⟩, T.k_TooLarge_BadName, _, rfl, iteF ?_⟩
    refine ⟨_, rfl, _, _, _, false, rfl, T.E_TooLarge.i, rfl, fun u r => r, fun x e => ⟨_, by cases e; exact hd3⟩, T.k_TooLarge_BadLine, _, rfl, iteF ?_⟩
    refine ⟨_, rfl, _, _, _, false, rfl, T.E_TooLarge.i, rfl, fun u r => r, fun x e => ⟨_, by cases e; exact hd3⟩, T.k_TooLarge_Mismatch, _, rfl, iteF ?_⟩
    refine ⟨.ref D, rfl, _, _, rfl, .inl (.inl (.inl hD3)), rfl, _, rfl, iteN rfl ?_⟩
    refine ⟨_, rfl, _, _, _, true, rfl, T.E_TooLarge.i, rfl, fun u r => r, fun x e => ⟨_, by cases e; exact hd3⟩, T.k_TooLarge_ValueError, _, rfl, iteF ?_⟩
    exact ⟨.ref D, rfl, _, _, _, _, rfl, rfl, .inl (.inl hD3), rfl, q t _ sm3 ht3⟩

def sp_sameR (rel : Hp → V → V → Prop) : Sp := fun vs H Q _ => ∃ x y : V, vs = [x, y] ∧ rel H x y ∧ Q (.bl true) H
theorem same_bit {x : V} {Q : VK} {H : Hp} (q : Q (.bl true) H) : Q (.bl (decide (x = x))) H := by
  rw [decide_eq_true rfl]
  exact q
theorem same_step {rel : Hp → V → V → Prop} {j : Nat} (T : Txt K mg base) (G : FnOk P w K mg base CX0 j T.f_same T.fd_same ["actual", "expected"] (sp_sameR rel)) :
    FnOk P w K mg base CX0 (j + 1) T.f_same T.fd_same ["actual", "expected"] (sp_sameR (SameR rel)) := by
  refine T.F_same.ok sc_same (fun vs H Q E h => ?_) (fun cdv A outer s H vs Q E hr h => ?_)
  · obtain ⟨x, y, rfl, _⟩ := h
    rfl
  · obtain ⟨x, y, rfl, h, q⟩ := h
    refine ⟨_, (pss_cons (ps_if (pt_cmpR op_isN (pv 1) pe_non (nomark _)) (pss_one (ps_ret (pe_cmpR op_isN (pv 0) pe_non (nomark _)))) pss_nil)
      (pss_cons (ps_if (pt_val (pe_callB call_isi (by rfl) T.z_isinstance (by decide +kernel) (pa_cons (pv 1) (pa_cons (pe_bltn (v := .ty "bool") (by rfl) T.z_bool (by decide +kernel) rfl) pa_nil)))) (pss_one (ps_ret (pe_and (pe_callB call_isi (by rfl) T.z_isinstance (by decide +kernel) (pa_cons (pv 0) (pa_cons (pe_bltn (v := .ty "bool") (by rfl) T.z_bool (by decide +kernel) rfl) pa_nil))) (pe_one (pe_cmpR op_eq (pv 0) (pv 1) (nomark _)))))) pss_nil)
      (pss_cons (ps_if (pt_val (pe_callB call_isi (by rfl) T.z_isinstance (by decide +kernel) (pa_cons (pv 1) (pa_cons (pe_bltn (v := .ty "int") (by rfl) T.z_int (by decide +kernel) rfl) pa_nil)))) (pss_one (ps_ret (pe_and (pe_callB call_isi (by rfl) T.z_isinstance (by decide +kernel) (pa_cons (pv 0) (pa_cons (pe_bltn (v := .ty "int") (by rfl) T.z_int (by decide +kernel) rfl) pa_nil))) (pe_and (pe_not (pe_callB call_isi (by rfl) T.z_isinstance (by decide +kernel) (pa_cons (pv 0) (pa_cons (pe_bltn (v := .ty "bool") (by rfl) T.z_bool (by decide +kernel) rfl) pa_nil)))) (pe_one (pe_cmpR op_eq (pv 0) (pv 1) (nomark _))))))) pss_nil)
      (pss_cons (ps_if (pt_val (pe_callB call_isi (by rfl) T.z_isinstance (by decide +kernel) (pa_cons (pv 1) (pa_cons (pe_bltn (v := .ty "str") (by rfl) T.z_str (by decide +kernel) rfl) pa_nil)))) (pss_one (ps_ret (pe_and (pe_callB call_isi (by rfl) T.z_isinstance (by decide +kernel) (pa_cons (pv 0) (pa_cons (pe_bltn (v := .ty "str") (by rfl) T.z_str (by decide +kernel) rfl) pa_nil))) (pe_one (pe_cmpR op_eq (pv 0) (pv 1) (nomark _)))))) pss_nil)
      (pss_cons (ps_if (pt_val (pe_callB call_isi (by rfl) T.z_isinstance (by decide +kernel) (pa_cons (pv 1) (pa_cons (pe_bltn (v := .ty "tuple") (by rfl) T.z_tuple (by decide +kernel) rfl) pa_nil)))) (pss_one (ps_if (pt_not (pt_val (pe_callB call_isi (by rfl) T.z_isinstance (by decide +kernel) (pa_cons (pv 0) (pa_cons (pe_bltn (v := .ty "tuple") (by rfl) T.z_tuple (by decide +kernel) rfl) pa_nil))))) (pss_one (ps_ret pe_bl)) pss_nil)) (pss_one (ps_if (PW.pt (pw_or (pt_not (pt_val (pe_callB call_isi (by rfl) T.z_isinstance (by decide +kernel) (pa_cons (pv 0) (pa_cons (pe_bltn (v := .ty "list") (by rfl) T.z_list (by decide +kernel) rfl) pa_nil))))) (pw_or1 (pt_not (pt_val (pe_callB call_isi (by rfl) T.z_isinstance (by decide +kernel) (pa_cons (pv 1) (pa_cons (pe_bltn (v := .ty "list") (by rfl) T.z_list (by decide +kernel) rfl) pa_nil)))))))) (pss_one (ps_ret pe_bl)) pss_nil)))
      (pss_cons (ps_if (pt_cmpR op_ne (pe_callB call_len (by rfl) T.z_len PySem.boot_len (pa_cons (pv 0) pa_nil)) (pe_callB call_len (by rfl) T.z_len PySem.boot_len (pa_cons (pv 1) pa_nil)) (nomark _)) (pss_one (ps_ret pe_bl)) pss_nil)
      (pss_cons (ps_for PassesOwn.never rfl (pi_range1 (by rfl) T.z_range (pa_cons (pe_callB call_len (by rfl) T.z_len PySem.boot_len (pa_cons (pv 1) pa_nil)) pa_nil)) (pg_name (i := 2) sc_same.nd rfl (.inl rfl)) (pss_one (ps_if (pt_not (pt_val (pe_call G (hr.mono (by first | decide | exact Nat.le_refl _)) (by rfl) T.g_same T.F_same.kp T.b_same .nil pass0 (pa_cons (pe_ix ix_seq (pv 0) (pv 2) (fun _ _ => rfl)) (pa_cons (pe_ix ix_seq (pv 1) (pv 2) (fun _ _ => rfl)) pa_nil))))) (pss_one (ps_ret pe_bl)) pss_nil)))
      (pss_one (ps_ret pe_bl))))))))), ?_⟩
    rcases h with ⟨rfl, hy⟩ | ⟨p, r, xs, ys, rfl, rfl, ho, hl, hb, hi⟩
    · cases x with
      | non => exact ⟨_, rfl, rfl, _, rfl, iteC rfl ⟨_, rfl, rfl, q⟩⟩
      | bl b => exact ⟨_, rfl, rfl, _, rfl, iteN rfl ⟨_, rfl, _, _, _, _, true, rfl, .ty _, .base (.bl b), kit_ty (by decide +kernel), _, rfl, iteT ⟨_, rfl, _, _, _, _, true, rfl, .ty _, .base (.bl b), kit_ty (by decide +kernel), _, rfl, iteT ⟨_, rfl, _, rfl, rfl, same_bit q⟩⟩⟩⟩
      | int b =>
        refine ⟨_, rfl, rfl, _, rfl, iteN rfl ⟨_, rfl, _, _, _, _, false, rfl, .ty _, .base (.int b), kit_ty (by decide +kernel), _, rfl, iteF ?_⟩⟩
        refine ⟨_, rfl, _, _, _, _, true, rfl, .ty _, .base (.int b), kit_ty (by decide +kernel), _, rfl, iteT ?_⟩
        exact ⟨_, rfl, _, _, _, _, true, rfl, .ty _, .base (.int b), kit_ty (by decide +kernel), _, rfl, iteT ⟨_, rfl, _, _, _, _, false, rfl, .ty _, .base (.int b), kit_ty (by decide +kernel), _, rfl, _, rfl, iteT ⟨_, rfl, _, rfl, rfl, same_bit q⟩⟩⟩
      | str b =>
        refine ⟨_, rfl, rfl, _, rfl, iteN rfl ⟨_, rfl, _, _, _, _, false, rfl, .ty _, .base (.str b), kit_ty (by decide +kernel), _, rfl, iteF ?_⟩⟩
        refine ⟨_, rfl, _, _, _, _, false, rfl, .ty _, .base (.str b), kit_ty (by decide +kernel), _, rfl, iteF ?_⟩
        refine ⟨_, rfl, _, _, _, _, true, rfl, .ty _, .base (.str b), kit_ty (by decide +kernel), _, rfl, iteT ?_⟩
        exact ⟨_, rfl, _, _, _, _, true, rfl, .ty _, .base (.str b), kit_ty (by decide +kernel), _, rfl, iteT ⟨_, rfl, _, rfl, rfl, same_bit q⟩⟩
      | byt b => cases hy
      | flt b => cases hy
      | ref b => cases hy
      | ty b => cases hy
    · refine ⟨_, rfl, rfl, _, rfl, iteN rfl ?_⟩
      rcases ho with ⟨o1, o2⟩ | ⟨o1, o2⟩
      · refine ⟨_, rfl, _, _, _, _, false, rfl, .ty _, .base (.tup o2), kit_ty (by decide +kernel), _, rfl, iteF ?_⟩
        refine ⟨_, rfl, _, _, _, _, false, rfl, .ty _, .base (.tup o2), kit_ty (by decide +kernel), _, rfl, iteF ?_⟩
        refine ⟨_, rfl, _, _, _, _, false, rfl, .ty _, .base (.tup o2), kit_ty (by decide +kernel), _, rfl, iteF ?_⟩
        refine ⟨_, rfl, _, _, _, _, true, rfl, .ty _, .base (.tup o2), kit_ty (by decide +kernel), _, rfl, iteT ?_⟩
        refine ⟨_, rfl, _, _, _, _, true, rfl, .ty _, .base (.tup o1), kit_ty (by decide +kernel), _, rfl, iteF ?_⟩
        refine ⟨_, rfl, _, _, rfl, .inr ⟨_, .inl (.inl o1), rfl⟩, _, rfl, _, _, rfl, .inr ⟨_, .inl (.inl o2), rfl⟩, rfl, _, rfl, iteN (by rw [hl]; simp) ?_⟩
        refine ⟨_, rfl, _, _, rfl, .inr ⟨_, .inl (.inl o2), rfl⟩, (ys.length : Int), rfl, by omega, by omega, ?_⟩
        refine for_range (lo := 0) (n := (ys.length : Int).toNat) (fun i σ H' => ∃ z : Option V, σ = [some (.ref p), some (.ref r), z] ∧ H' = H) ⟨none, rfl, rfl⟩ ?_ ?_
        · rintro i σ H' hn ⟨z, rfl, rfl⟩
          have hn' : i < ys.length := hn
          have hx : xs[i]? = some xs[i] := List.getElem?_eq_getElem (by omega)
          have hy : ys[i]? = some ys[i] := List.getElem?_eq_getElem hn'
          refine ⟨_, rfl, _, rfl, .inr (.inl ⟨_, _, _, _, rfl, rfl, .inl (.inl o1), (by rw [Int.zero_add]; exact atI_nat hx), _, rfl, _, rfl, .inr (.inl ⟨_, _, _, _, rfl, rfl, .inl (.inl o2), (by rw [Int.zero_add]; exact atI_nat hy), _, _, rfl, hi i _ _ hx hy, _, rfl, iteN rfl ⟨_, rfl, rfl⟩⟩)⟩)⟩
        · rintro σ H' ⟨z, rfl, rfl⟩
          exact q
      · refine ⟨_, rfl, _, _, _, _, false, rfl, .ty _, .base (.lst o2), kit_ty (by decide +kernel), _, rfl, iteF ?_⟩
        refine ⟨_, rfl, _, _, _, _, false, rfl, .ty _, .base (.lst o2), kit_ty (by decide +kernel), _, rfl, iteF ?_⟩
        refine ⟨_, rfl, _, _, _, _, false, rfl, .ty _, .base (.lst o2), kit_ty (by decide +kernel), _, rfl, iteF ?_⟩
        refine ⟨_, rfl, _, _, _, _, false, rfl, .ty _, .base (.lst o2), kit_ty (by decide +kernel), _, rfl, iteF ?_⟩
        refine ⟨_, rfl, _, _, _, _, true, rfl, .ty _, .base (.lst o1), kit_ty (by decide +kernel), _, rfl, iteN rfl ⟨_, rfl, _, _, _, _, true, rfl, .ty _, .base (.lst o2), kit_ty (by decide +kernel), _, rfl, iteN rfl ?_⟩⟩
        refine ⟨_, rfl, _, _, rfl, .inl ⟨_, .inl (.inl o1), rfl⟩, _, rfl, _, _, rfl, .inl ⟨_, .inl (.inl o2), rfl⟩, rfl, _, rfl, iteN (by rw [hl]; simp) ?_⟩
        refine ⟨_, rfl, _, _, rfl, .inl ⟨_, .inl (.inl o2), rfl⟩, (ys.length : Int), rfl, by omega, by omega, ?_⟩
        refine for_range (lo := 0) (n := (ys.length : Int).toNat) (fun i σ H' => ∃ z : Option V, σ = [some (.ref p), some (.ref r), z] ∧ H' = H) ⟨none, rfl, rfl⟩ ?_ ?_
        · rintro i σ H' hn ⟨z, rfl, rfl⟩
          have hn' : i < ys.length := hn
          have hx : xs[i]? = some xs[i] := List.getElem?_eq_getElem (by omega)
          have hy : ys[i]? = some ys[i] := List.getElem?_eq_getElem hn'
          refine ⟨_, rfl, _, rfl, .inl ⟨_, _, _, _, rfl, rfl, .inl (.inl o1), (by rw [Int.zero_add]; exact atI_nat hx), _, rfl, _, rfl, .inl ⟨_, _, _, _, rfl, rfl, .inl (.inl o2), (by rw [Int.zero_add]; exact atI_nat hy), _, _, rfl, hi i _ _ hx hy, _, rfl, iteN rfl ⟨_, rfl, rfl⟩⟩⟩⟩
        · rintro σ H' ⟨z, rfl, rfl⟩
          exact q
/-- no promise at all -/
theorem fnOk_none {f : Addr} {fd : FuncData} {ps : List Str} {k : Nat} : FnOk P w K mg base CX0 k f fd ps (sp_sameR fun _ _ _ => False) :=
  ⟨fun vs H Q E h => by obtain ⟨_, _, _, h, _⟩ := h; exact h.elim, fun A outer s H args us vs Q E _ _ _ _ h => by obtain ⟨_, _, _, h, _⟩ := h; exact h.elim⟩
theorem ok_sameN (T : Txt K mg base) : ∀ n : Nat, FnOk P w K mg base CX0 (n + 1) T.f_same T.fd_same ["actual", "expected"] (sp_sameR (SameD n))
  | 0 => same_step T fnOk_none
  | n + 1 => same_step T (ok_sameN T n)
theorem ok_same (T : Txt K mg base) : FnOk P w K mg base CX0 10 T.f_same T.fd_same ["actual", "expected"] (sp_sameR (SameD 9)) := ok_sameN T 9
def sp_sameB (rel : Hp → V → V → Prop) (dp : Hp → V → Prop) : Sp := fun vs H Q _ => ∃ x y : V, vs = [x, y] ∧ dp H x ∧ dp H y ∧ ∀ b : Bool, (b = true ↔ rel H x y) → Q (.bl b) H
theorem sameB_step {rel : Hp → V → V → Prop} {dp : Hp → V → Prop} {j : Nat} (T : Txt K mg base) (G : FnOk P w K mg base CX0 j T.f_same T.fd_same ["actual", "expected"] (sp_sameB rel dp)) :
    FnOk P w K mg base CX0 (j + 1) T.f_same T.fd_same ["actual", "expected"] (sp_sameB (SameR rel) (DeepE dp)) := by
  refine T.F_same.ok sc_same (fun vs H Q E h => ?_) (fun cdv A outer s H vs Q E hr h => ?_)
  · obtain ⟨x, y, rfl, _⟩ := h
    rfl
  · obtain ⟨x, y, rfl, dx, dy, q⟩ := h
    refine ⟨_, (pss_cons (ps_if (pt_cmpR op_isN (pv 1) pe_non (nomark _)) (pss_one (ps_ret (pe_cmpR op_isN (pv 0) pe_non (nomark _)))) pss_nil)
      (pss_cons (ps_if (pt_val (pe_callB call_isi (by rfl) T.z_isinstance (by decide +kernel) (pa_cons (pv 1) (pa_cons (pe_bltn (v := .ty "bool") (by rfl) T.z_bool (by decide +kernel) rfl) pa_nil)))) (pss_one (ps_ret (pe_and (pe_callB call_isi (by rfl) T.z_isinstance (by decide +kernel) (pa_cons (pv 0) (pa_cons (pe_bltn (v := .ty "bool") (by rfl) T.z_bool (by decide +kernel) rfl) pa_nil))) (pe_one (pe_cmpR op_eq (pv 0) (pv 1) (nomark _)))))) pss_nil)
      (pss_cons (ps_if (pt_val (pe_callB call_isi (by rfl) T.z_isinstance (by decide +kernel) (pa_cons (pv 1) (pa_cons (pe_bltn (v := .ty "int") (by rfl) T.z_int (by decide +kernel) rfl) pa_nil)))) (pss_one (ps_ret (pe_and (pe_callB call_isi (by rfl) T.z_isinstance (by decide +kernel) (pa_cons (pv 0) (pa_cons (pe_bltn (v := .ty "int") (by rfl) T.z_int (by decide +kernel) rfl) pa_nil))) (pe_and (pe_not (pe_callB call_isi (by rfl) T.z_isinstance (by decide +kernel) (pa_cons (pv 0) (pa_cons (pe_bltn (v := .ty "bool") (by rfl) T.z_bool (by decide +kernel) rfl) pa_nil)))) (pe_one (pe_cmpR op_eq (pv 0) (pv 1) (nomark _))))))) pss_nil)
      (pss_cons (ps_if (pt_val (pe_callB call_isi (by rfl) T.z_isinstance (by decide +kernel) (pa_cons (pv 1) (pa_cons (pe_bltn (v := .ty "str") (by rfl) T.z_str (by decide +kernel) rfl) pa_nil)))) (pss_one (ps_ret (pe_and (pe_callB call_isi (by rfl) T.z_isinstance (by decide +kernel) (pa_cons (pv 0) (pa_cons (pe_bltn (v := .ty "str") (by rfl) T.z_str (by decide +kernel) rfl) pa_nil))) (pe_one (pe_cmpR op_eq (pv 0) (pv 1) (nomark _)))))) pss_nil)
      (pss_cons (ps_if (pt_val (pe_callB call_isi (by rfl) T.z_isinstance (by decide +kernel) (pa_cons (pv 1) (pa_cons (pe_bltn (v := .ty "tuple") (by rfl) T.z_tuple (by decide +kernel) rfl) pa_nil)))) (pss_one (ps_if (pt_not (pt_val (pe_callB call_isi (by rfl) T.z_isinstance (by decide +kernel) (pa_cons (pv 0) (pa_cons (pe_bltn (v := .ty "tuple") (by rfl) T.z_tuple (by decide +kernel) rfl) pa_nil))))) (pss_one (ps_ret pe_bl)) pss_nil)) (pss_one (ps_if (PW.pt (pw_or (pt_not (pt_val (pe_callB call_isi (by rfl) T.z_isinstance (by decide +kernel) (pa_cons (pv 0) (pa_cons (pe_bltn (v := .ty "list") (by rfl) T.z_list (by decide +kernel) rfl) pa_nil))))) (pw_or1 (pt_not (pt_val (pe_callB call_isi (by rfl) T.z_isinstance (by decide +kernel) (pa_cons (pv 1) (pa_cons (pe_bltn (v := .ty "list") (by rfl) T.z_list (by decide +kernel) rfl) pa_nil)))))))) (pss_one (ps_ret pe_bl)) pss_nil)))
      (pss_cons (ps_if (pt_cmpR op_ne (pe_callB call_len (by rfl) T.z_len PySem.boot_len (pa_cons (pv 0) pa_nil)) (pe_callB call_len (by rfl) T.z_len PySem.boot_len (pa_cons (pv 1) pa_nil)) (nomark _)) (pss_one (ps_ret pe_bl)) pss_nil)
      (pss_cons (ps_for PassesOwn.never rfl (pi_range1 (by rfl) T.z_range (pa_cons (pe_callB call_len (by rfl) T.z_len PySem.boot_len (pa_cons (pv 1) pa_nil)) pa_nil)) (pg_name (i := 2) sc_same.nd rfl (.inl rfl)) (pss_one (ps_if (pt_not (pt_val (pe_call G (hr.mono (by first | decide | exact Nat.le_refl _)) (by rfl) T.g_same T.F_same.kp T.b_same .nil pass0 (pa_cons (pe_ix ix_seq (pv 0) (pv 2) (fun _ _ => rfl)) (pa_cons (pe_ix ix_seq (pv 1) (pv 2) (fun _ _ => rfl)) pa_nil))))) (pss_one (ps_ret pe_bl)) pss_nil)))
      (pss_one (ps_ret pe_bl))))))))), ?_⟩
    have sx := dx.shal
    have atom : plainV y = true → ∀ b : Bool, (b = true ↔ x = y) → Q (.bl b) H := fun pl b e => q b (e.trans (same_atom pl).symm)
    cases y with
    | non => exact ⟨_, rfl, rfl, _, rfl, iteC rfl ⟨_, rfl, rfl, atom rfl _ decide_eq_true_iff⟩⟩
    | bl b =>
      refine ⟨_, rfl, rfl, _, rfl, iteN rfl ⟨_, rfl, _, _, _, _, true, rfl, .ty _, .base (.bl b), kit_ty (by decide +kernel), _, rfl, iteT ?_⟩⟩
      obtain ⟨t, ht, kt⟩ := isi_bool (K := K) sx
      refine ⟨_, rfl, _, _, _, _, _, rfl, .ty _, ht, kt, _, rfl, ?_⟩
      cases e : isBl x with
      | false => exact iteF (atom rfl false ⟨fun h => (by cases h), fun h => by rw [h] at e; cases e⟩)
      | true =>
        have : scal x (.bl b) = true := by
          cases x <;> first | rfl | cases e
        exact iteT ⟨_, rfl, _, rfl, this, atom rfl _ decide_eq_true_iff⟩
    | int b =>
      refine ⟨_, rfl, rfl, _, rfl, iteN rfl ⟨_, rfl, _, _, _, _, false, rfl, .ty _, .base (.int b), kit_ty (by decide +kernel), _, rfl, iteF ?_⟩⟩
      refine ⟨_, rfl, _, _, _, _, true, rfl, .ty _, .base (.int b), kit_ty (by decide +kernel), _, rfl, iteT ?_⟩
      obtain ⟨t, ht, kt⟩ := isi_int (K := K) sx
      obtain ⟨t2, ht2, kt2⟩ := isi_bool (K := K) sx
      refine ⟨_, rfl, _, _, _, _, _, rfl, .ty _, ht, kt, _, rfl, ?_⟩
      cases e : (isInt x || isBl x) with
      | false => exact iteF (atom rfl false ⟨fun h => (by cases h), fun h => by rw [h] at e; cases e⟩)
      | true =>
        refine iteT ⟨_, rfl, _, _, _, _, _, rfl, .ty _, ht2, kt2, _, rfl, _, rfl, ?_⟩
        cases e2 : isBl x with
        | true => exact iteF (atom rfl false ⟨fun h => (by cases h), fun h => by rw [h] at e2; cases e2⟩)
        | false =>
          have : scal x (.int b) = true := by
            cases x <;> first | rfl | (cases e2; done) | (cases e; done)
          exact iteT ⟨_, rfl, _, rfl, this, atom rfl _ decide_eq_true_iff⟩
    | str b =>
      refine ⟨_, rfl, rfl, _, rfl, iteN rfl ⟨_, rfl, _, _, _, _, false, rfl, .ty _, .base (.str b), kit_ty (by decide +kernel), _, rfl, iteF ?_⟩⟩
      refine ⟨_, rfl, _, _, _, _, false, rfl, .ty _, .base (.str b), kit_ty (by decide +kernel), _, rfl, iteF ?_⟩
      refine ⟨_, rfl, _, _, _, _, true, rfl, .ty _, .base (.str b), kit_ty (by decide +kernel), _, rfl, iteT ?_⟩
      obtain ⟨t, ht, kt⟩ := isi_str (K := K) sx
      refine ⟨_, rfl, _, _, _, _, _, rfl, .ty _, ht, kt, _, rfl, ?_⟩
      cases e : isStr x with
      | false => exact iteF (atom rfl false ⟨fun h => (by cases h), fun h => by rw [h] at e; cases e⟩)
      | true =>
        have : scal x (.str b) = true := by
          cases x <;> first | rfl | cases e
        exact iteT ⟨_, rfl, _, rfl, this, atom rfl _ decide_eq_true_iff⟩
    | byt b => rcases dy with ⟨pl, _⟩ | ⟨r, ys, e, _⟩ <;> first | cases pl | cases e
    | flt b => rcases dy with ⟨pl, _⟩ | ⟨r, ys, e, _⟩ <;> first | cases pl | cases e
    | ty b => rcases dy with ⟨pl, _⟩ | ⟨r, ys, e, _⟩ <;> first | cases pl | cases e
    | ref r =>
      rcases dy with ⟨pl, _⟩ | ⟨r', ys, e, o, ly, hy⟩
      · cases pl
      cases e
      refine ⟨_, rfl, rfl, _, rfl, iteN rfl ?_⟩
      rcases o with o2 | o2
      · refine ⟨_, rfl, _, _, _, _, false, rfl, .ty _, .base (.lst o2), kit_ty (by decide +kernel), _, rfl, iteF ?_⟩
        refine ⟨_, rfl, _, _, _, _, false, rfl, .ty _, .base (.lst o2), kit_ty (by decide +kernel), _, rfl, iteF ?_⟩
        refine ⟨_, rfl, _, _, _, _, false, rfl, .ty _, .base (.lst o2), kit_ty (by decide +kernel), _, rfl, iteF ?_⟩
        refine ⟨_, rfl, _, _, _, _, false, rfl, .ty _, .base (.lst o2), kit_ty (by decide +kernel), _, rfl, iteF ?_⟩
        obtain ⟨t, b, ht, kt, hb⟩ := isi_lst (K := K) sx
        refine ⟨_, rfl, _, _, _, _, _, rfl, .ty _, ht, kt, _, rfl, ?_⟩
        cases b with
        | false =>
          refine iteC rfl (iteC rfl (q false ⟨fun h => (by cases h), fun h => ?_⟩))
          rcases h with ⟨e, pl⟩ | ⟨p', q', xs', ys', e1, e2, h, _⟩
          · cases pl
          · cases e2
            have z : false = true := (h.elim (fun z => (by rw [z.2] at o2; cases o2)) fun z => hb.mpr ⟨p', xs', e1, z.1⟩)
            cases z
        | true =>
        obtain ⟨p, xs, rfl, o1⟩ := hb.mp rfl
        refine iteN rfl ⟨_, rfl, _, _, _, _, true, rfl, .ty _, .base (.lst o2), kit_ty (by decide +kernel), _, rfl, iteN rfl ?_⟩
        have hx : xs.length ≤ 1000000 ∧ ∀ x ∈ xs, dp H x := by
          rcases dx with ⟨pl, _⟩ | ⟨p', xs', e, o, l, h⟩
          · cases pl
          · cases e
            have := same_row o (.inl o1)
            subst this
            exact ⟨l, h⟩
        refine ⟨_, rfl, _, _, rfl, .inl ⟨_, .inl (.inl o1), rfl⟩, _, rfl, _, _, rfl, .inl ⟨_, .inl (.inl o2), rfl⟩, rfl, _, rfl, ?_⟩
        have rows : ∀ h : SameR rel H (.ref p) (.ref r), xs.length = ys.length ∧ ∀ (i : Nat) (x' y' : V), xs[i]? = some x' → ys[i]? = some y' → rel H x' y' := fun h => by
          rcases h with ⟨_, pl⟩ | ⟨p', q', xs', ys', e1, e2, h, l, _, rr⟩
          · cases pl
          · cases e1
            cases e2
            have g1 := same_row (h.elim (fun z => .inr z.1) fun z => .inl z.1) (.inl o1)
            have g2 := same_row (h.elim (fun z => .inr z.2) fun z => .inl z.2) (.inl o2)
            subst g1
            subst g2
            exact ⟨l, rr⟩
        by_cases hl : xs.length = ys.length
        · refine iteN (by rw [hl]; simp) ?_
          refine ⟨_, rfl, _, _, rfl, .inl ⟨_, .inl (.inl o2), rfl⟩, (ys.length : Int), rfl, by omega, by omega, ?_⟩
          refine for_range (lo := 0) (n := (ys.length : Int).toNat) (fun i σ H' => ∃ z : Option V, σ = [some (.ref p), some (.ref r), z] ∧ H' = H ∧ ∀ k : Nat, k < i → ∀ x' y' : V, xs[k]? = some x' → ys[k]? = some y' → rel H x' y') ⟨none, rfl, rfl, fun k h => by omega⟩ ?_ ?_
          · rintro i σ H' hn ⟨z, rfl, rfl, done⟩
            have hn' : i < ys.length := hn
            have hx' : xs[i]? = some xs[i] := List.getElem?_eq_getElem (by omega)
            have hy' : ys[i]? = some ys[i] := List.getElem?_eq_getElem hn'
            refine ⟨_, rfl, _, rfl, .inl ⟨_, _, _, _, rfl, rfl, .inl (.inl o1), (by rw [Int.zero_add]; exact atI_nat hx'), _, rfl, _, rfl, .inl ⟨_, _, _, _, rfl, rfl, .inl (.inl o2), (by rw [Int.zero_add]; exact atI_nat hy'), _, _, rfl, hx.2 _ (List.getElem_mem _), hy _ (List.getElem_mem _), fun b hb => ⟨_, rfl, ?_⟩⟩⟩⟩
            cases b with
            | false =>
              refine iteC rfl (q false ⟨fun h => (by cases h), fun h => ?_⟩)
              cases hb.mpr ((rows h).2 i _ _ hx' hy')
            | true =>
              refine iteN rfl ⟨_, rfl, rfl, fun k hk x' y' ex ey => ?_⟩
              by_cases g : k < i
              · exact done k g x' y' ex ey
              · have g : k = i := by omega
                subst g
                rw [hx'] at ex
                rw [hy'] at ey
                cases ex
                cases ey
                exact hb.mp rfl
          · rintro σ H' ⟨z, rfl, rfl, done⟩
            refine q true ⟨fun _ => .inr ⟨p, r, xs, ys, rfl, rfl, .inr ⟨o1, o2⟩, hl, ly, fun i x' y' ex ey => done i ?_ x' y' ex ey⟩, fun _ => rfl⟩
            have := (List.getElem?_eq_some_iff.mp ey).1
            show i < (ys.length : Int).toNat
            omega
        · refine iteC (by rw [decide_eq_false (fun e => hl (by have := V.int.inj e; omega))]; rfl) (q false ⟨fun h => (by cases h), fun h => (hl (rows h).1).elim⟩)
      · refine ⟨_, rfl, _, _, _, _, false, rfl, .ty _, .base (.tup o2), kit_ty (by decide +kernel), _, rfl, iteF ?_⟩
        refine ⟨_, rfl, _, _, _, _, false, rfl, .ty _, .base (.tup o2), kit_ty (by decide +kernel), _, rfl, iteF ?_⟩
        refine ⟨_, rfl, _, _, _, _, false, rfl, .ty _, .base (.tup o2), kit_ty (by decide +kernel), _, rfl, iteF ?_⟩
        refine ⟨_, rfl, _, _, _, _, true, rfl, .ty _, .base (.tup o2), kit_ty (by decide +kernel), _, rfl, iteT ?_⟩
        obtain ⟨t, b, ht, kt, hb⟩ := isi_tup (K := K) sx
        refine ⟨_, rfl, _, _, _, _, _, rfl, .ty _, ht, kt, _, rfl, ?_⟩
        cases b with
        | false =>
          refine iteC rfl (q false ⟨fun h => (by cases h), fun h => ?_⟩)
          rcases h with ⟨e, pl⟩ | ⟨p', q', xs', ys', e1, e2, h, _⟩
          · cases pl
          · cases e2
            have z : false = true := (h.elim (fun z => hb.mpr ⟨p', xs', e1, z.1⟩) fun z => (by rw [z.2] at o2; cases o2))
            cases z
        | true =>
        obtain ⟨p, xs, rfl, o1⟩ := hb.mp rfl
        refine iteF ?_
        have hx : xs.length ≤ 1000000 ∧ ∀ x ∈ xs, dp H x := by
          rcases dx with ⟨pl, _⟩ | ⟨p', xs', e, o, l, h⟩
          · cases pl
          · cases e
            have := same_row o (.inr o1)
            subst this
            exact ⟨l, h⟩
        refine ⟨_, rfl, _, _, rfl, .inr ⟨_, .inl (.inl o1), rfl⟩, _, rfl, _, _, rfl, .inr ⟨_, .inl (.inl o2), rfl⟩, rfl, _, rfl, ?_⟩
        have rows : ∀ h : SameR rel H (.ref p) (.ref r), xs.length = ys.length ∧ ∀ (i : Nat) (x' y' : V), xs[i]? = some x' → ys[i]? = some y' → rel H x' y' := fun h => by
          rcases h with ⟨_, pl⟩ | ⟨p', q', xs', ys', e1, e2, h, l, _, rr⟩
          · cases pl
          · cases e1
            cases e2
            have g1 := same_row (h.elim (fun z => .inr z.1) fun z => .inl z.1) (.inr o1)
            have g2 := same_row (h.elim (fun z => .inr z.2) fun z => .inl z.2) (.inr o2)
            subst g1
            subst g2
            exact ⟨l, rr⟩
        by_cases hl : xs.length = ys.length
        · refine iteN (by rw [hl]; simp) ?_
          refine ⟨_, rfl, _, _, rfl, .inr ⟨_, .inl (.inl o2), rfl⟩, (ys.length : Int), rfl, by omega, by omega, ?_⟩
          refine for_range (lo := 0) (n := (ys.length : Int).toNat) (fun i σ H' => ∃ z : Option V, σ = [some (.ref p), some (.ref r), z] ∧ H' = H ∧ ∀ k : Nat, k < i → ∀ x' y' : V, xs[k]? = some x' → ys[k]? = some y' → rel H x' y') ⟨none, rfl, rfl, fun k h => by omega⟩ ?_ ?_
          · rintro i σ H' hn ⟨z, rfl, rfl, done⟩
            have hn' : i < ys.length := hn
            have hx' : xs[i]? = some xs[i] := List.getElem?_eq_getElem (by omega)
            have hy' : ys[i]? = some ys[i] := List.getElem?_eq_getElem hn'
            refine ⟨_, rfl, _, rfl, .inr (.inl ⟨_, _, _, _, rfl, rfl, .inl (.inl o1), (by rw [Int.zero_add]; exact atI_nat hx'), _, rfl, _, rfl, .inr (.inl ⟨_, _, _, _, rfl, rfl, .inl (.inl o2), (by rw [Int.zero_add]; exact atI_nat hy'), _, _, rfl, hx.2 _ (List.getElem_mem _), hy _ (List.getElem_mem _), fun b hb => ⟨_, rfl, ?_⟩⟩)⟩)⟩
            cases b with
            | false =>
              refine iteC rfl (q false ⟨fun h => (by cases h), fun h => ?_⟩)
              cases hb.mpr ((rows h).2 i _ _ hx' hy')
            | true =>
              refine iteN rfl ⟨_, rfl, rfl, fun k hk x' y' ex ey => ?_⟩
              by_cases g : k < i
              · exact done k g x' y' ex ey
              · have g : k = i := by omega
                subst g
                rw [hx'] at ex
                rw [hy'] at ey
                cases ex
                cases ey
                exact hb.mp rfl
          · rintro σ H' ⟨z, rfl, rfl, done⟩
            refine q true ⟨fun _ => .inr ⟨p, r, xs, ys, rfl, rfl, .inl ⟨o1, o2⟩, hl, ly, fun i x' y' ex ey => done i ?_ x' y' ex ey⟩, fun _ => rfl⟩
            have := (List.getElem?_eq_some_iff.mp ey).1
            show i < (ys.length : Int).toNat
            omega
        · refine iteC (by rw [decide_eq_false (fun e => hl (by have := V.int.inj e; omega))]; rfl) (q false ⟨fun h => (by cases h), fun h => (hl (rows h).1).elim⟩)
theorem fnOk_noSame {f : Addr} {fd : FuncData} {ps : List Str} {k : Nat} : FnOk P w K mg base CX0 k f fd ps (sp_sameB (fun _ _ _ => False) fun _ _ => False) :=
  ⟨fun vs H Q E h => by obtain ⟨_, _, _, h, _⟩ := h; exact h.elim, fun A outer s H args us vs Q E _ _ _ _ h => by obtain ⟨_, _, _, h, _⟩ := h; exact h.elim⟩
theorem ok_sameBN (T : Txt K mg base) : ∀ n : Nat, FnOk P w K mg base CX0 (n + 1) T.f_same T.fd_same ["actual", "expected"] (sp_sameB (SameD n) (DeepN n))
  | 0 => sameB_step T fnOk_noSame
  | n + 1 => sameB_step T (ok_sameBN T n)
theorem ok_sameB (T : Txt K mg base) : FnOk P w K mg base CX0 10 T.f_same T.fd_same ["actual", "expected"] (sp_sameB (SameD 9) (DeepN 9)) := ok_sameBN T 9

def sp_refused_right [Tabl] (K : PySem.W.Frag) : Sp := fun vs H Q _ => ∃ (a p d : Addr), vs = [.ref p, .ref d] ∧ Good H ∧ SpD K a H p d ∧ ∀ H' : Hp, Same H H' → Q (.bl true) H'
theorem ok_refused_right (T : Txt K mg base) : FnOk P w K mg base CX0 (14 + 1) T.f_refused_right T.fd_refused_right ["spoilt", "due"] (sp_refused_right K) := by
  refine T.F_refused_right.ok sc_refused_right (fun vs H Q E h => ?_) (fun A outer s H vs Q E hr h => ?_)
  · obtain ⟨a, p, d, rfl, _⟩ := h
    rfl
  · obtain ⟨a, p, d, rfl, good, ⟨rv, zv, nv, bv, av, ev, f, hp, hf, hd, dp, dz⟩, q⟩ := h
    refine ⟨_, (pss_cons (ps_set (i := 2) sc_refused_right.nd rfl (.inl rfl) (pe_call (ok_copy T) (hr.mono (by first | decide | exact Nat.le_refl _)) (by rfl) T.g_copy T.F_copy.kp T.b_copy .nil pass0 (pa_cons (pv 0) pa_nil)))
      (pss_cons (ps_for PassesOwn.never rfl (pi_range1 (by rfl) T.z_range (pa_cons pe_int pa_nil)) (pg_name (i := 3) sc_refused_right.nd rfl (.inl rfl)) (pss_one (ps_if (pt_not (pt_val (pe_call (ok_same T) (hr.mono (by first | decide | exact Nat.le_refl _)) (by rfl) T.g_same T.F_same.kp T.b_same .nil pass0 (pa_cons (pe_lam (k := 11) T.F_refusal T.b_refusal sc_refusal (fun cdg => gives_refusal T _ _ _ _ _ _ _ _ _ _ cdg) T.B_refused_right T.m_refused_right rfl (hr.mono (by first | decide | exact Nat.le_refl _)) (LamX.lamS_by (sc := defScope s_refused_right) (by decide +kernel)) T.g_refusal (fun A outer s H E f c hr2 => pe_callS (ok_made T) hr2 (by rfl) T.g_made T.F_made.kp T.b_made (fun σ => passAt (takes_of rfl rfl rfl rfl) σ) (pa_cons (pv 0) pa_nil))) (pa_cons (pv 1) pa_nil))))) (pss_one (ps_ret pe_bl)) pss_nil)))
      (pss_one (ps_ret (pe_call (ok_same T) (hr.mono (by first | decide | exact Nat.le_refl _)) (by rfl) T.g_same T.F_same.kp T.b_same .nil pass0 (pa_cons (pv 0) (pa_cons (pv 2) pa_nil))))))), ?_⟩
    refine ⟨_, rfl, .ref p, rfl, ⟨a, dp⟩, fun u H1 s1 su _ => ?_⟩
    refine ⟨2, rfl, by decide, by decide, for_range (lo := 0) (n := 2) (fun i σ H' => (∃ y : Option V, σ = [some (.ref p), some (.ref d), some u, y]) ∧ Same H1 H') ⟨⟨_, rfl⟩, .refl _⟩ ?_ ?_⟩
    · rintro i σ H2 hi ⟨⟨y, rfl⟩, s2⟩
      have sm := s1.trans s2
      refine ⟨sm.good good, fun H3 s3 D nD => ?_⟩
      have k4 := same_new (o := .lst []) nD
      have sm4 := (sm.trans s3).trans k4
      refine ⟨_, rfl, p, rv, zv, nv, bv, av, ev, rfl, sm4 _ _ hp, sm4.good good, .inr ⟨f, hf.kt (Kt.same sm4), fun d' H5 H6 s5 n5 e => ?_⟩⟩
      subst e
      refine ⟨s5.trans (same_new n5), d', _, _, rfl, upd_same, f.refT, fun t H7 s7 ht => ?_⟩
      have sm7 := (sm.trans s3).trans s7
      refine ⟨_, rfl, _, _, rfl, .inr ⟨t, d, _, _, rfl, rfl, .inl ⟨ht, sm7 _ _ hd⟩, rfl, Nat.le_trans f.zs_len (by decide), fun j x y' ex ey => ?_⟩, _, rfl, iteN rfl ⟨⟨_, rfl⟩, (s2.trans s3).trans s7⟩⟩
      rw [ex] at ey
      cases ey
      exact ((dz x (List.mem_of_getElem? ex)).same sm7).samed
    · rintro σ H2 ⟨⟨y, rfl⟩, s2⟩
      exact ⟨_, rfl, _, rfl, _, _, rfl, (su.keep s2).symm, q _ (s1.trans s2)⟩

def sp_Machine_arcs (C : Addr) (_ : PySem.W.Frag) : Sp := fun vs H Q _ => ∃ (a dx : Addr) (fs : List (Str × V)) (l : Addr) (xs : List V), vs = [.ref a] ∧ H a = some (.ins C dx fs) ∧ fs.lookup ("_arcs" : Str) = some (.ref l) ∧ H l = some (.lst xs) ∧ ∀ p, H p = none → Q (.ref p) (upd H p (.lst xs))
theorem ok_Machine_arcs (T : Txt K mg base) : FnOk P w K mg base CX0 (0 + 1) T.f_Machine_arcs T.fd_Machine_arcs ["self"] (sp_Machine_arcs T.C_Machine K) := by
  refine T.F_Machine_arcs.ok sc_Machine_arcs (fun vs H Q E h => ?_) (fun cdv A outer s H vs Q E hr h => ?_)
  · obtain ⟨a, dx, fs, l, xs, rfl, _⟩ := h
    rfl
  · obtain ⟨a, dx, fs, l, xs, rfl, ha, lk, hl, q⟩ := h
    refine ⟨_, (pss_one (ps_ret (pe_callTy call_list_of (by rfl) T.z_list (by decide +kernel) (pa_cons (pe_fld (pv 0) rfl) pa_nil)))), ?_⟩
    exact ⟨_, rfl, a, _, dx, fs, _, rfl, ha, T.cl_Machine, T.no_Machine__arcs, lk, l, xs, rfl, .inl (.inl (.inl hl)), q⟩

def sp_Machine_begins (C : Addr) (_ : PySem.W.Frag) : Sp := fun vs H Q _ => ∃ (a dx : Addr) (fs : List (Str × V)) (l : Addr) (xs : List V), vs = [.ref a] ∧ H a = some (.ins C dx fs) ∧ fs.lookup ("_begins" : Str) = some (.ref l) ∧ H l = some (.lst xs) ∧ ∀ p, H p = none → Q (.ref p) (upd H p (.lst xs))
theorem ok_Machine_begins (T : Txt K mg base) : FnOk P w K mg base CX0 (0 + 1) T.f_Machine_begins T.fd_Machine_begins ["self"] (sp_Machine_begins T.C_Machine K) := by
  refine T.F_Machine_begins.ok sc_Machine_begins (fun vs H Q E h => ?_) (fun cdv A outer s H vs Q E hr h => ?_)
  · obtain ⟨a, dx, fs, l, xs, rfl, _⟩ := h
    rfl
  · obtain ⟨a, dx, fs, l, xs, rfl, ha, lk, hl, q⟩ := h
    refine ⟨_, (pss_one (ps_ret (pe_callTy call_list_of (by rfl) T.z_list (by decide +kernel) (pa_cons (pe_fld (pv 0) rfl) pa_nil)))), ?_⟩
    exact ⟨_, rfl, a, _, dx, fs, _, rfl, ha, T.cl_Machine, T.no_Machine__begins, lk, l, xs, rfl, .inl (.inl (.inl hl)), q⟩

def sp_Machine_ends (C : Addr) (_ : PySem.W.Frag) : Sp := fun vs H Q _ => ∃ (a dx : Addr) (fs : List (Str × V)) (l : Addr) (xs : List V), vs = [.ref a] ∧ H a = some (.ins C dx fs) ∧ fs.lookup ("_ends" : Str) = some (.ref l) ∧ H l = some (.lst xs) ∧ ∀ p, H p = none → Q (.ref p) (upd H p (.lst xs))
theorem ok_Machine_ends (T : Txt K mg base) : FnOk P w K mg base CX0 (0 + 1) T.f_Machine_ends T.fd_Machine_ends ["self"] (sp_Machine_ends T.C_Machine K) := by
  refine T.F_Machine_ends.ok sc_Machine_ends (fun vs H Q E h => ?_) (fun cdv A outer s H vs Q E hr h => ?_)
  · obtain ⟨a, dx, fs, l, xs, rfl, _⟩ := h
    rfl
  · obtain ⟨a, dx, fs, l, xs, rfl, ha, lk, hl, q⟩ := h
    refine ⟨_, (pss_one (ps_ret (pe_callTy call_list_of (by rfl) T.z_list (by decide +kernel) (pa_cons (pe_fld (pv 0) rfl) pa_nil)))), ?_⟩
    exact ⟨_, rfl, a, _, dx, fs, _, rfl, ha, T.cl_Machine, T.no_Machine__ends, lk, l, xs, rfl, .inl (.inl (.inl hl)), q⟩

def sp_Machine_read (C : Addr) (_ : PySem.W.Frag) : Sp := fun vs H Q _ => ∃ (a dx : Addr) (fs : List (Str × V)) (v : V), vs = [.ref a] ∧ H a = some (.ins C dx fs) ∧ fs.lookup ("_read" : Str) = some v ∧ Q v H
theorem ok_Machine_read (T : Txt K mg base) : FnOk P w K mg base CX0 (0 + 1) T.f_Machine_read T.fd_Machine_read ["self"] (sp_Machine_read T.C_Machine K) := by
  refine T.F_Machine_read.ok sc_Machine_read (fun vs H Q E h => ?_) (fun cdv A outer s H vs Q E hr h => ?_)
  · obtain ⟨a, dx, fs, v, rfl, _⟩ := h
    rfl
  · obtain ⟨a, dx, fs, v, rfl, ha, l, q⟩ := h
    refine ⟨_, (pss_one (ps_ret (pe_fld (pv 0) rfl))), ?_⟩
    exact ⟨_, rfl, a, _, dx, fs, v, rfl, ha, T.cl_Machine, T.no_Machine__read, l, q⟩

def sp_Machine_size (C : Addr) (_ : PySem.W.Frag) : Sp := fun vs H Q _ => ∃ (a dx : Addr) (fs : List (Str × V)) (v : V), vs = [.ref a] ∧ H a = some (.ins C dx fs) ∧ fs.lookup ("_size" : Str) = some v ∧ Q v H
theorem ok_Machine_size (T : Txt K mg base) : FnOk P w K mg base CX0 (0 + 1) T.f_Machine_size T.fd_Machine_size ["self"] (sp_Machine_size T.C_Machine K) := by
  refine T.F_Machine_size.ok sc_Machine_size (fun vs H Q E h => ?_) (fun cdv A outer s H vs Q E hr h => ?_)
  · obtain ⟨a, dx, fs, v, rfl, _⟩ := h
    rfl
  · obtain ⟨a, dx, fs, v, rfl, ha, l, q⟩ := h
    refine ⟨_, (pss_one (ps_ret (pe_fld (pv 0) rfl))), ?_⟩
    exact ⟨_, rfl, a, _, dx, fs, v, rfl, ha, T.cl_Machine, T.no_Machine__size, l, q⟩

def sp_Machine_write (C : Addr) (_ : PySem.W.Frag) : Sp := fun vs H Q _ => ∃ (a dx : Addr) (fs : List (Str × V)) (v : V), vs = [.ref a] ∧ H a = some (.ins C dx fs) ∧ fs.lookup ("_write" : Str) = some v ∧ Q v H
theorem ok_Machine_write (T : Txt K mg base) : FnOk P w K mg base CX0 (0 + 1) T.f_Machine_write T.fd_Machine_write ["self"] (sp_Machine_write T.C_Machine K) := by
  refine T.F_Machine_write.ok sc_Machine_write (fun vs H Q E h => ?_) (fun cdv A outer s H vs Q E hr h => ?_)
  · obtain ⟨a, dx, fs, v, rfl, _⟩ := h
    rfl
  · obtain ⟨a, dx, fs, v, rfl, ha, l, q⟩ := h
    refine ⟨_, (pss_one (ps_ret (pe_fld (pv 0) rfl))), ?_⟩
    exact ⟨_, rfl, a, _, dx, fs, v, rfl, ha, T.cl_Machine, T.no_Machine__write, l, q⟩

def sp_order_key [Tabl] (_ : PySem.W.Frag) : Sp := fun vs H Q _ => (∃ (t : Addr) (i : Int) (x : Str), vs = [.ref t] ∧ H t = some (.tup [.int i, .str x]) ∧ x.length ≤ 1000000 ∧ ∀ (p : Addr) (H' : Hp), Same H H' → H p = none → H' p = some (.tup [.int i, .int (x.length : Nat), .str x]) → Q (.ref p) H') ∨
  (∃ (t : Addr) (i : Int) (l x : Str) (j : Int), vs = [.ref t] ∧ H t = some (.tup [.int i, .str l, .str x, .int j]) ∧ x.length ≤ 1000000 ∧ ∀ (p : Addr) (H' : Hp), Same H H' → H p = none → H' p = some (.tup [.int i, .str l, .int (x.length : Nat), .str x, .int j]) → Q (.ref p) H')
theorem ok_order_key (T : Txt K mg base) : FnOk P w K mg base CX0 (0 + 1) T.f_order_key T.fd_order_key ["entry"] (sp_order_key K) := by
  refine T.F_order_key.ok sc_order_key (fun vs H Q E h => ?_) (fun cdv A outer s H vs Q E hr h => ?_)
  · obtain ⟨t, i, x, rfl, _⟩ | ⟨t, i, l, x, j, rfl, _⟩ := h <;> rfl
  · refine ⟨_, (pss_cons (ps_if (pt_cmpR op_eq (pe_callB call_len_seq (by rfl) T.z_len PySem.boot_len (pa_cons (pv 0) pa_nil)) pe_int (nomark _)) (pss_one (ps_ret (pe_tup (pa_cons (pe_ix ix_tup (pv 0) pe_int (fun _ _ => rfl)) (pa_cons (pe_callB call_len_str (by rfl) T.z_len PySem.boot_len (pa_cons (pe_ix ix_tup (pv 0) pe_int (fun _ _ => rfl)) pa_nil)) (pa_cons (pe_ix ix_tup (pv 0) pe_int (fun _ _ => rfl)) pa_nil)))))) pss_nil)
      (pss_one (ps_ret (pe_tup (pa_cons (pe_ix ix_tup (pv 0) pe_int (fun _ _ => rfl)) (pa_cons (pe_ix ix_tup (pv 0) pe_int (fun _ _ => rfl)) (pa_cons (pe_callB call_len_str (by rfl) T.z_len PySem.boot_len (pa_cons (pe_ix ix_tup (pv 0) pe_int (fun _ _ => rfl)) pa_nil)) (pa_cons (pe_ix ix_tup (pv 0) pe_int (fun _ _ => rfl)) (pa_cons (pe_ix ix_tup (pv 0) pe_int (fun _ _ => rfl)) pa_nil))))))))), ?_⟩
    rcases h with ⟨t, i, x, rfl, ht, sx, q⟩ | ⟨t, i, l, x, j, rfl, ht, sx, q⟩
    · refine ⟨_, rfl, t, _, rfl, .inr (.inl (.inl ht)), rfl, _, rfl, iteC (decide_eq_true rfl) ?_⟩
      refine ⟨_, rfl, _, _, _, _, rfl, rfl, .inl (.inl ht), rfl, _, rfl, _, _, _, _, rfl, rfl, .inl (.inl ht), rfl, _, rfl, small_text sx, _, rfl, _, _, _, _, rfl, rfl, .inl (.inl ht), rfl, by show 3 ≤ sizeLine; decide, fun p np => q p _ (same_new np) np upd_same⟩
    · refine ⟨_, rfl, t, _, rfl, .inr (.inl (.inl ht)), rfl, _, rfl, iteN (decide_eq_false (by intro z; injection z with z; revert z; show ¬ ((4 : Nat) : Int) = 2; omega)) ?_⟩
      refine ⟨_, rfl, _, _, _, _, rfl, rfl, .inl (.inl ht), rfl, _, rfl, _, _, _, _, rfl, rfl, .inl (.inl ht), rfl, _, rfl, _, _, _, _, rfl, rfl, .inl (.inl ht), rfl, _, rfl, small_text sx, _, rfl, _, _, _, _, rfl, rfl, .inl (.inl ht), rfl, _, rfl, _, _, _, _, rfl, rfl, .inl (.inl ht), rfl, by show 5 ≤ sizeLine; decide, fun p np => q p _ (same_new np) np upd_same⟩
theorem kd_order_key (T : Txt K mg base) : FnOk P w K mg base CX0 (0 + 1) T.f_order_key T.fd_order_key ["entry"] (SkF.spKeyD K relO) := (ok_order_key T).imp fun vs H Q E ⟨x, d, e, h, q⟩ => by
  rcases h with ⟨t, i, y, ex, ht, l, ed⟩ | ⟨t, i, l, y, j, ex, ht, le, ed⟩
  · subst ex
    subst ed
    exact .inl ⟨t, i, y, e, ht, l, fun p H' s _ h => q _ H' s (.tup (.inl (.inl h)) (.cons (.int _) (.cons (.int _) (.cons (.str _) .nil))))⟩
  · subst ex
    subst ed
    exact .inr ⟨t, i, l, y, j, e, ht, le, fun p H' s _ h => q _ H' s (.tup (.inl (.inl h)) (.cons (.int _) (.cons (.str _) (.cons (.int _) (.cons (.str _) (.cons (.int _) .nil))))))⟩

/-- [m.begins, m.arcs, m.ends] -/
theorem read3 [Tabl] {K : PySem.W.Frag} {C : Addr} {E1 E2 E3 : XK} {σ : L2.St} {i : Nat} {H : Hp} {Q : VK} {m : Addr} {r z : Str} {n : Int} {dx b a e : Addr} {bx ax ex : List V} {bd : List (Int × Str)} {ad : List EnS.Arc} {ed : List (Int × Str)}
    (hs : σ[i]? = some (some (.ref m))) (M : MA C H m r z n dx b a e bx ax ex bd ad ed)
    (q : ∀ (v l1 l2 l3 : Addr) (H' : Hp), Same H H' → Told3 H' v l1 l2 l3 bx ax ex bd ad ed → (∀ x ∈ [l1, l2, l3, v], H x = none) → Q (.ref v) H') :
    tLst (tCons (tProp C (sp_Machine_begins C K) [] E1 (tVar i)) (tCons (tProp C (sp_Machine_arcs C K) [] E2 (tVar i)) (tCons (tProp C (sp_Machine_ends C K) [] E3 (tVar i)) tNil))) σ H Q := by
  refine ⟨_, hs, m, dx, _, rfl, M.ins, m, dx, _, b, bx, rfl, M.ins, mfs_begins, M.hb, fun l1 n1 => ?_⟩
  have s1 := same_new (o := .lst bx) n1
  have h1 : (upd H l1 (.lst bx)) l1 = some (.lst bx) := upd_same
  generalize upd H l1 (.lst bx) = H1 at s1 h1 ⊢
  have M1 := M.same s1
  refine ⟨_, hs, m, dx, _, rfl, M1.ins, m, dx, _, a, ax, rfl, M1.ins, mfs_arcs, M1.ha, fun l2 n2 => ?_⟩
  have s2 := same_new (o := .lst ax) n2
  have h2 : (upd H1 l2 (.lst ax)) l2 = some (.lst ax) := upd_same
  generalize upd H1 l2 (.lst ax) = H2 at s2 h2 ⊢
  have M2 := M1.same s2
  refine ⟨_, hs, m, dx, _, rfl, M2.ins, m, dx, _, e, ex, rfl, M2.ins, mfs_ends, M2.he, fun l3 n3 => ?_⟩
  have s3 := same_new (o := .lst ex) n3
  have h3 : (upd H2 l3 (.lst ex)) l3 = some (.lst ex) := upd_same
  generalize upd H2 l3 (.lst ex) = H3 at s3 h3 ⊢
  have M3 := M2.same s3
  refine ⟨by show 3 ≤ sizeLine; decide, fun v nv => ?_⟩
  have s4 := same_new (o := .lst [.ref l1, .ref l2, .ref l3]) nv
  have M4 := M3.same s4
  refine q v l1 l2 l3 _ (((s1.trans s2).trans s3).trans s4) ⟨upd_same, s4 _ _ (s3 _ _ (s2 _ _ h1)), s4 _ _ (s3 _ _ h2), s4 _ _ h3, M4.nb, M4.na, M4.ne⟩ fun x mx => ?_
  rcases List.mem_cons.mp mx with e | mx
  · rw [e]; exact n1
  rcases List.mem_cons.mp mx with e | mx
  · rw [e]; exact s1.free n2
  rcases List.mem_cons.mp mx with e | mx
  · rw [e]; exact s1.free (s2.free n3)
  · rw [List.mem_singleton.mp mx]; exact s1.free (s2.free (s3.free nv))
/-- the list at d holds the keys, each once, in order -/
def KD (H : Hp) (d : Addr) (ks : List (List L2.Key)) : Prop := ∃ ys gs, H d = some (.lst ys) ∧ EntL kimg H ys gs ∧ gs.Pairwise KLt ∧ (∀ e, e ∈ gs ↔ e ∈ ks) ∧ gs.length ≤ 400
theorem KD.put [Tabl] {H : Hp} {d W : Addr} {ks : List (List L2.Key)} {us zs : List V} (h : KD H d ks) (ne : d ≠ W) (hW : H W = some (.lst us)) : KD (upd H W (.lst zs)) d ks := by
  obtain ⟨ys, gs, h1, h2, h3⟩ := h
  exact ⟨ys, gs, by rw [upd_ne ne]; exact h1, h2.butN (But.put hW) (fun zs e => by rw [hW] at e; cases e), h3⟩
theorem KD.same [Tabl] {H H' : Hp} {d : Addr} {ks : List (List L2.Key)} (h : KD H d ks) (s : Same H H') : KD H' d ks := by
  obtain ⟨ys, gs, h1, h2, h3⟩ := h
  exact ⟨ys, gs, s _ _ h1, h2.same s, h3⟩
def sp_told_right [Tabl] (C : Addr) (K : PySem.W.Frag) : Sp := fun vs H Q _ => ∃ (m p : Addr) (r z : Str) (n : Nat) (be : List (Int × Str)) (ae : List EnS.Arc) (ee : List (Int × Str)) (b a e : Addr) (bx ax ex : List V), vs = [.ref m, .ref p] ∧ GoodM r z n be ae ee ∧ Mach C H m r z n be ae ee ∧ H p = some (.lst [.str r, .str z, .int n, .ref b, .ref a, .ref e]) ∧
  H b = some (.lst bx) ∧ H a = some (.lst ax) ∧ H e = some (.lst ex) ∧ bx.length ≤ 400 ∧ ax.length ≤ 400 ∧ ex.length ≤ 400 ∧ EntL pimg H bx be ∧ EntL aimg H ax ae ∧ EntL pimg H ex ee ∧ ∀ H' : Hp, Same H H' → Q (.bl true) H'
theorem ok_told_right (T : Txt K mg base) : FnOk P w K mg base CX0 (10 + 1) T.f_told_right T.fd_told_right ["machine", "parts"] (sp_told_right T.C_Machine K) := by
  refine T.F_told_right.ok sc_told_right (fun vs H Q E h => ?_) (fun cdv A outer s H vs Q E hr h => ?_)
  · obtain ⟨m, p, r, z, n, be, ae, ee, b, a, e, bx, ax, ex, rfl, _⟩ := h
    rfl
  · obtain ⟨m, p, r, z, n, be, ae, ee, b, a, e, bx, ax, ex, rfl, g, M, hp, hb, ha, he, lb, la, le, eb, ea, eE, q⟩ := h
    refine ⟨_, (pss_cons (ps_set (i := 2) sc_told_right.nd rfl (.inl rfl) (pe_lst pa_nil))
      (C8.pss_cut (ps_for PassesOwn.never rfl (pi_list (pe_slice sl_list (pv 1) (po_some pe_int) po_none)) (pg_name (i := 3) sc_told_right.nd rfl (.inl rfl)) (pss_cons (ps_set (i := 4) sc_told_right.nd rfl (.inr rfl) (pe_callBK (SkF.cr_sortKey (kd_order_key T) T.b_order_key (hr.mono (by first | decide | exact Nat.le_refl _)) hr.units relO_same) (by rfl) T.z_sorted (by decide +kernel) (pa_cons (pv 3) pa_nil) (pk_cons (pe_glob (v := .ref T.f_order_key) (by rfl) T.g_order_key rfl) pk_nil)))
      (pss_one (ps_expr (pe_bm PySem.F.plainAttrs_list PySem.F.slot_list_append PySem.F.type_list_append mt_append (pv 2) (pa_cons (pe_lc (own := [("k", 5)]) (g := gName 5) rfl sc_told_right.nd (pi_range1 (by rfl) T.z_range (pa_cons (pe_callB call_len_seq (by rfl) T.z_len PySem.boot_len (pa_cons (pv 4) pa_nil)) pa_nil)) (blkOk_by (N := ["machine", "parts", "due", "row", "kept", "k"]) (sc := defScope s_told_right) (by decide +kernel)) (fun _ _ _ _ _ => pg_name (i := 5) sc_told_right.nd rfl (Or.inl rfl)) (fun _ _ _ _ _ => (pts_one (PW.pt (pw_or (pt_cmpR op_eq (pv 5) pe_int (nomark _)) (pw_or1 (pt_cmpR (op_neDK K rfl (by exact hr.units)) (pe_ix (ix_listK K rfl) (pv 4) (pv 5) (fun _ _ => rfl)) (pe_ix (ix_listK K rfl) (pv 4) (pe_op op_sub (pv 5) pe_int) (fun _ _ => rfl)) (nomark _))))))) (fun _ _ _ _ _ => (pe_ix (ix_listK K rfl) (pv 4) (pv 5) (fun _ _ => rfl)))) pa_nil))))))
      (pss_cons (ps_if (pt_not (pt_val (pe_call (ok_same T) (hr.mono (by first | decide | exact Nat.le_refl _)) (by rfl) T.g_same T.F_same.kp T.b_same .nil pass0 (pa_cons (pe_tup (pa_cons (pe_prop (pv 0) T.cl_Machine T.p_Machine_read (ok_Machine_read T) (hr.mono (by first | decide | exact Nat.le_refl _)) T.b_Machine_read .nil pass0 rfl) (pa_cons (pe_prop (pv 0) T.cl_Machine T.p_Machine_write (ok_Machine_write T) (hr.mono (by first | decide | exact Nat.le_refl _)) T.b_Machine_write .nil pass0 rfl) (pa_cons (pe_prop (pv 0) T.cl_Machine T.p_Machine_size (ok_Machine_size T) (hr.mono (by first | decide | exact Nat.le_refl _)) T.b_Machine_size .nil pass0 rfl) pa_nil)))) (pa_cons (pe_tup (pa_cons (pe_ix ix_list (pv 1) pe_int (fun _ _ => rfl)) (pa_cons (pe_ix ix_list (pv 1) pe_int (fun _ _ => rfl)) (pa_cons (pe_ix ix_list (pv 1) pe_int (fun _ _ => rfl)) pa_nil)))) pa_nil))))) (pss_one (ps_ret pe_bl)) pss_nil)
      (pss_one (ps_ret (pe_call (ok_same T) (hr.mono (by first | decide | exact Nat.le_refl _)) (by rfl) T.g_same T.F_same.kp T.b_same .nil pass0 (pa_cons (pe_lst (pa_cons (pe_prop (pv 0) T.cl_Machine T.p_Machine_begins (ok_Machine_begins T) (hr.mono (by first | decide | exact Nat.le_refl _)) T.b_Machine_begins .nil pass0 rfl) (pa_cons (pe_prop (pv 0) T.cl_Machine T.p_Machine_arcs (ok_Machine_arcs T) (hr.mono (by first | decide | exact Nat.le_refl _)) T.b_Machine_arcs .nil pass0 rfl) (pa_cons (pe_prop (pv 0) T.cl_Machine T.p_Machine_ends (ok_Machine_ends T) (hr.mono (by first | decide | exact Nat.le_refl _)) T.b_Machine_ends .nil pass0 rfl) pa_nil)))) (pa_cons (pv 2) pa_nil)))))))), ?_⟩
    have row : ∀ (i : Nat) (v : V) (H' : Hp), Same H H' → [V.ref b, .ref a, .ref e][i]? = some v → ∃ l ks xs key fs, v = .ref l ∧ [be.map ppk, ae.map apk, ee.map ppk][i]? = some ks ∧ SortK H' l ks xs key fs := fun i v H' s hv => by
      match i, hv with
      | 0, rfl =>
        obtain ⟨key, fs, h⟩ := SortK.pairs (s _ _ hb) (eb.same s) lb (fun e m => by have := (g.gb e m).2.2.2; omega) (fun e m => shaped_p g.az (g.gb e m).2.2.1)
        exact ⟨b, _, bx, key, fs, rfl, rfl, h⟩
      | 1, rfl =>
        obtain ⟨key, fs, h⟩ := SortK.arcs (s _ _ ha) (ea.same s) la (fun e m => by have := (g.ga e m).2.2.2.2.2.1; omega) (fun e m => shaped_a g.ar g.az (g.ga e m).2.2.2.1 (g.ga e m).2.2.2.2.1)
        exact ⟨a, _, ax, key, fs, rfl, rfl, h⟩
      | 2, rfl =>
        obtain ⟨key, fs, h⟩ := SortK.pairs (s _ _ he) (eE.same s) le (fun e m => by have := (g.ge e m).2.2.2; omega) (fun e m => shaped_p g.az (g.ge e m).2.2.1)
        exact ⟨e, _, ex, key, fs, rfl, rfl, h⟩
    refine ⟨by show 0 ≤ sizeLine; decide, fun W nW => ?_⟩
    have k1 := same_new (o := .lst []) nW
    have hW : (upd H W (.lst [])) W = some (.lst []) := upd_same
    generalize upd H W (.lst []) = H1 at k1 hW ⊢
    refine ⟨fun σ' H' => (∃ y1 y2 y3 : Option V, σ' = [some (.ref m), some (.ref p), some (.ref W), y1, y2, y3]) ∧ Same H H' ∧ ∃ d1 d2 d3, H' W = some (.lst [.ref d1, .ref d2, .ref d3]) ∧ KD H' d1 (be.map ppk) ∧ KD H' d2 (ae.map apk) ∧ KD H' d3 (ee.map ppk), ?_, ?_⟩
    · refine ⟨_, rfl, 3, rfl, p, _, rfl, .inl (.inl (k1 _ _ hp)), fun pp np => ?_⟩
      have k2 := same_new (o := .lst (cutV [.str r, .str z, .int n, .ref b, .ref a, .ref e] (some 3) none)) np
      have hpp : (upd H1 pp (.lst (cutV [.str r, .str z, .int n, .ref b, .ref a, .ref e] (some 3) none))) pp = some (.lst [.ref b, .ref a, .ref e]) := upd_same
      have hW := k2 _ _ hW
      generalize upd H1 pp (.lst (cutV [.str r, .str z, .int n, .ref b, .ref a, .ref e] (some 3) none)) = H2 at k2 hpp hW ⊢
      have ppW : pp ≠ W := fun e => by rw [e, hW] at hpp; cases hpp
      refine ⟨pp, rfl, ⟨_, .inl (.inl hpp)⟩, for_list (K := K) (a := pp) (xs := [.ref b, .ref a, .ref e]) (fun i σ H' => (∃ y1 y2 y3 : Option V, σ = [some (.ref m), some (.ref p), some (.ref W), y1, y2, y3]) ∧ Same H H' ∧ H' pp = some (.lst [.ref b, .ref a, .ref e]) ∧
          ∃ ps : List Addr, H' W = some (.lst (ps.map V.ref)) ∧ ps.length = i ∧ ∀ (j : Nat) (d : Addr) (ks : List (List L2.Key)), ps[j]? = some d → [be.map ppk, ae.map apk, ee.map ppk][j]? = some ks → d ≠ W ∧ KD H' d ks)
        ⟨⟨_, _, _, rfl⟩, k1.trans k2, hpp, [], hW, rfl, fun j d ks e => by cases e⟩ (fun i σ H' _ h => .inl (.inl h.2.2.1)) ?_ ?_⟩
      · rintro i v σ H3 hv ⟨⟨y1, y2, y3, rfl⟩, s3, hpp3, ps, hW3, lps, each⟩
        have i3 : i < 3 := (List.getElem?_eq_some_iff.mp hv).1
        obtain ⟨l, ks, xs, key, fs, rfl, hks, SK⟩ := row i v H3 s3 hv
        refine ⟨_, rfl, l, xs, key, rfl, rfl, .inl (.inl SK.row), SK.rel, SK.al, SK.so, SK.dp, fun s H4 s4 ns hs => ?_⟩
        have en4 := SK.ent.same s4
        generalize xs.mergeSort (PySem.W.dataLe false key) = ws at hs en4
        have lw : fs.length ≤ 400 := by
          have h1 := SK.ent.len
          rw [List.length_mergeSort] at h1
          have := SK.len
          omega
        have lws := en4.len
        have hW4 := s4 _ _ hW3
        refine ⟨_, rfl, .inl ⟨rfl, _, .inl (.inl hW4)⟩, _, rfl, s, _, rfl, .inl (.inl (.inl hs)), (ws.length : Int), rfl, by omega, by omega, fun D nD => ?_⟩
        refine lc_range (lo := 0) (n := (ws.length : Int).toNat) (fun k H' => Same H4 H' ∧ ∃ ys gs, H' D = some (.lst ys) ∧ EntL kimg H' ys gs ∧ gs.Pairwise KLt ∧ (∀ e, e ∈ gs ↔ e ∈ fs.take k) ∧ gs.length ≤ k) ⟨same_new nD, [], [], upd_same, .nil, .nil, fun e => by simp, Nat.le_refl _⟩ ?_ ?_
        · rintro k H5 hk ⟨s5, ys, gs, hD, en, gp, gm, gl⟩
          have hk' : k < ws.length := hk
          obtain ⟨f, t, hf, ex', ht⟩ := en4.get (List.getElem?_eq_getElem hk')
          have at_ : atI ws (0 + (k : Int)) = some (.ref t) := by
            rw [Int.zero_add]
            exact atI_nat (by rw [List.getElem?_eq_getElem hk', ex'])
          have hs5 := s5 _ _ hs
          have ht5 := s5 _ _ ht
          have ly := en.len
          have ltD : ys.length < sizeLine := Nat.lt_of_le_of_lt (by omega : ys.length ≤ 400) (by decide)
          have put : (k = 0 ∨ ∃ f0, fs[k - 1]? = some f0 ∧ f0 ≠ f) → Same H4 (upd H5 D (.lst (ys ++ [.ref t]))) ∧ ∃ ys' gs', (upd H5 D (.lst (ys ++ [.ref t]))) D = some (.lst ys') ∧ EntL kimg (upd H5 D (.lst (ys ++ [.ref t]))) ys' gs' ∧ gs'.Pairwise KLt ∧ (∀ e, e ∈ gs' ↔ e ∈ fs.take (k + 1)) ∧ gs'.length ≤ k + 1 := fun ne => by
            obtain ⟨p1, p2⟩ := once_step SK.pw hf gp gm ne
            exact ⟨Same.grown (.refl H4) nD s5 hD, _, _, upd_same, (en.snoc ht5).butN (But.put hD) (fun zs e => by rw [hD] at e; cases e), p1, p2, by rw [List.length_append]; exact Nat.succ_le_succ gl⟩
          by_cases k0 : k = 0
          · subst k0
            exact ⟨rfl, _, rfl, rfl, _, rfl, iteC (decide_eq_true rfl) (iteT ⟨_, rfl, _, rfl, _, _, _, _, rfl, rfl, .inl (.inl hs5), at_, ys, hD, ltD, put (.inl rfl)⟩)⟩
          have hk1 : k - 1 < ws.length := by omega
          obtain ⟨f0, t0, hf0, ex0, ht0⟩ := en4.get (List.getElem?_eq_getElem hk1)
          have at0 : atI ws (0 + (k : Int) - 1) = some (.ref t0) := by
            rw [show 0 + (k : Int) - 1 = ((k - 1 : Nat) : Int) by omega]
            exact atI_nat (by rw [List.getElem?_eq_getElem hk1, ex0])
          have ht05 := s5 _ _ ht0
          refine ⟨rfl, _, rfl, rfl, _, rfl, iteN (decide_eq_false (by intro z; injection z with z; omega)) ⟨_, rfl, _, rfl, _, _, _, _, rfl, rfl, .inl (.inl hs5), at_, _, rfl, _, rfl, _, _, rfl, rfl, _, _, _, _, rfl, rfl, .inl (.inl hs5), at0, kdata f, kdata f0, dp_kdata ht5, dp_kdata ht05, SK.sh f (List.mem_of_getElem? hf), SK.sh f0 (List.mem_of_getElem? hf0), _, rfl, ?_⟩⟩
          by_cases fe : f = f0
          · refine iteN (by rw [(eqv_kdata f f0).mpr fe]; rfl) ⟨s5, ys, gs, hD, en, gp, once_skip hf gm (by omega) (by rw [fe]; exact hf0), by omega⟩
          · have ev : PyData.eqv (kdata f) (kdata f0) = false := by
              cases h : PyData.eqv (kdata f) (kdata f0) with
              | false => rfl
              | true => exact (fe ((eqv_kdata f f0).mp h)).elim
            exact iteC (by rw [ev]; rfl) ⟨_, rfl, _, rfl, _, _, _, _, rfl, rfl, .inl (.inl hs5), at_, ys, hD, ltD, put (.inr ⟨f0, hf0, fun z => fe z.symm⟩)⟩
        · rintro H5 ⟨s5, ys, gs, hD, en, gp, gm, gl⟩
          have hW5 := s5 _ _ hW4
          have hpp5 := s5 _ _ (s4 _ _ hpp3)
          have DW : D ≠ W := fun e => by rw [e, hW4] at nD; cases nD
          have kd : KD H5 D ks := ⟨ys, gs, hD, en, gp, fun e => by rw [gm, ← SK.mem, List.take_of_length_le (show fs.length ≤ (ws.length : Int).toNat by omega)], by omega⟩
          refine ⟨W, _, _, rfl, rfl, hW5, by rw [List.length_map, lps]; exact Nat.lt_of_lt_of_le i3 (by decide), ⟨_, _, _, rfl⟩, Same.grown (.refl H) nW ((s3.trans s4).trans s5) hW5, by rw [upd_ne ppW]; exact hpp5, ps ++ [D], by rw [upd_same, List.map_append]; rfl, by rw [List.length_append, lps]; rfl, fun j d ks' hj hk => ?_⟩
          by_cases jl : j < ps.length
          · rw [List.getElem?_append_left jl] at hj
            obtain ⟨dW, k'⟩ := each j d ks' hj hk
            exact ⟨dW, (k'.same (s4.trans s5)).put dW hW5⟩
          · have ej : j = i := by
              have := (List.getElem?_eq_some_iff.mp hj).1
              rw [List.length_append] at this
              have : j < ps.length + 1 := this
              omega
            subst ej
            rw [List.getElem?_append_right (by omega), lps, Nat.sub_self] at hj
            have hj : D = d := Option.some.inj hj
            subst hj
            rw [hks] at hk
            cases hk
            exact ⟨DW, kd.put DW hW5⟩
      · rintro σ H3 ⟨⟨y1, y2, y3, rfl⟩, s3, _, ps, hW3, lps, each⟩
        obtain ⟨d1, d2, d3, rfl⟩ := list3 (show ps.length = 3 from lps)
        exact ⟨⟨_, _, _, rfl⟩, s3, d1, d2, d3, hW3, (each 0 d1 _ rfl rfl).2, (each 1 d2 _ rfl rfl).2, (each 2 d3 _ rfl rfl).2⟩
    rintro σ' H2 ⟨⟨y1, y2, y3, rfl⟩, s2, d1, d2, d3, hW2, K1, K2, K3⟩
    obtain ⟨dx, b0, a0, e0, bx0, ax0, ex0, bd, ad, ed, MA0, sb, sa, se, _⟩ := M.places (G := fun _ => none) (fun _ _ _ _ _ _ _ _ => ⟨rfl, rfl, rfl⟩)
    have MA2 := MA0.same s2
    have hp2 := s2 _ _ hp
    have hm2 := MA2.ins
    -- what it tells of itself
    refine ⟨_, rfl, m, dx, _, rfl, hm2, m, dx, _, _, rfl, hm2, mfs_read, _, rfl, m, dx, _, rfl, hm2, m, dx, _, _, rfl, hm2, mfs_write, _, rfl, m, dx, _, rfl, hm2, m, dx, _, _, rfl, hm2, mfs_size, by show 3 ≤ sizeLine; decide, fun t1 n1 => ?_⟩
    have k3 := same_new (o := .tup [.str r, .str z, .int n]) n1
    have h1 : (upd H2 t1 (.tup [.str r, .str z, .int n])) t1 = some (.tup [.str r, .str z, .int n]) := upd_same
    generalize upd H2 t1 (.tup [.str r, .str z, .int n]) = H3 at k3 h1 ⊢
    have hp3 := k3 _ _ hp2
    refine ⟨_, rfl, _, _, _, _, rfl, rfl, .inl (.inl hp3), rfl, _, rfl, _, _, _, _, rfl, rfl, .inl (.inl hp3), rfl, _, rfl, _, _, _, _, rfl, rfl, .inl (.inl hp3), rfl, by show 3 ≤ sizeLine; decide, fun t2 n2 => ?_⟩
    have k4 := same_new (o := .tup [.str r, .str z, .int n]) n2
    have h2 : (upd H3 t2 (.tup [.str r, .str z, .int n])) t2 = some (.tup [.str r, .str z, .int n]) := upd_same
    have h1 := k4 _ _ h1
    generalize upd H3 t2 (.tup [.str r, .str z, .int n]) = H4 at k4 h1 h2 ⊢
    refine ⟨_, _, rfl, .inr ⟨t1, t2, _, _, rfl, rfl, .inl ⟨h1, h2⟩, rfl, by show 3 ≤ 1000000; decide, fun i x y ex ey => .inl ⟨Option.some.inj (ex.symm.trans ey), ?_⟩⟩, _, rfl, iteN rfl ?_⟩
    · have m := List.mem_of_getElem? ey
      rcases List.mem_cons.mp m with e | m
      · rw [e]; rfl
      rcases List.mem_cons.mp m with e | m
      · rw [e]; rfl
      · rw [List.mem_singleton.mp m]; rfl
    have k34 := k3.trans k4
    have MA4 := MA2.same k34
    refine next_to ?_
    dsimp only
    refine un_ret (un_call (un_cons ?_))
    refine read3 (by rfl) MA4 fun v l1 l2 l3 H5 s5 T5 _ => ?_
    have s25 := k34.trans s5
    obtain ⟨y1', g1, f1, en1, p1, m1, _⟩ := K1.same s25
    obtain ⟨y2', g2, f2, en2, p2, m2, _⟩ := K2.same s25
    obtain ⟨y3', g3, f3, en3, p3, m3, _⟩ := K3.same s25
    obtain ⟨kb1, kb2⟩ := srt_keysP sb
    obtain ⟨ka1, ka2⟩ := srt_keysA sa
    obtain ⟨ke1, ke2⟩ := srt_keysP se
    have e1 : g1 = bd.map ppk := pw_unique klt_asym p1 kb1 fun y => (m1 y).trans (kb2 y).symm
    have e2 : g2 = ad.map apk := pw_unique klt_asym p2 ka1 fun y => (m2 y).trans (ka2 y).symm
    have e3 : g3 = ed.map ppk := pw_unique klt_asym p3 ke1 fun y => (m3 y).trans (ke2 y).symm
    subst e1
    subst e2
    subst e3
    have T6 : Told3 H5 W d1 d2 d3 y1' y2' y3' bd ad ed := ⟨s25 _ _ hW2, f1, f2, f3, en1.unkeys fun _ => rfl, en2.unkeys fun _ => rfl, en3.unkeys fun _ => rfl⟩
    exact ⟨_, rfl, _, _, rfl, T5.like (n := 6) T6 sb.l4 sa.l4 se.l4, q _ (s2.trans s25)⟩

def sp_stranger (_ : PySem.W.Frag) : Sp := fun vs H Q _ => ∃ (a ca : Addr) (z : Str), vs = [.ref a, .str z] ∧ Sto H a ca ∧ z.length ≤ 4 ∧ ∀ (c : Nat) (H' : Hp), c ∉ cs z → But a H H' → Sto H' a ca → Q (.str ⟨#[c]⟩) H'
theorem ok_stranger (T : Txt K mg base) : FnOk P w K mg base CX0 (3 + 1) T.f_stranger T.fd_stranger ["store", "letters"] (sp_stranger K) := by
  refine T.F_stranger.ok sc_stranger (fun vs H Q E h => ?_) (fun cdv A outer s H vs Q E hr h => ?_)
  · obtain ⟨a, ca, z, rfl, _⟩ := h
    rfl
  · obtain ⟨a, ca, z, rfl, S, lz, q⟩ := h
    refine ⟨_, (pss_one (ps_ret (pe_call (ok_pick T) (hr.mono (by first | decide | exact Nat.le_refl _)) (by rfl) T.g_pick T.F_pick.kp T.b_pick .nil pass0 (pa_cons (pv 0) (pa_cons (pe_lc (own := [("x", 2)]) (g := gName 2) rfl sc_stranger.nd (pi_str pe_str) (blkOk_by (N := ["store", "letters", "x"]) (sc := defScope s_stranger) (by decide +kernel)) (fun _ _ _ _ _ => pg_name (i := 2) sc_stranger.nd rfl (Or.inl rfl)) (fun _ _ _ _ _ => (pts_one (pt_cmpR op_notIn_sign (pv 2) (pv 1) rfl))) (fun _ _ _ _ _ => (pv 2))) pa_nil))))), ?_⟩
    have nD' : ∀ {D : Addr}, H D = none → D ≠ a ∧ D ≠ ca := fun h => S.ne h
    refine ⟨_, rfl, abc, rfl, fun D nD => ?_⟩
    refine lc_it walk_str (fun n H' => H' D = some (.lst ((((cs abc).take n).filter (fun c => !decide (c ∈ cs z))).map fun c => V.str ⟨#[c]⟩)) ∧ Same H H' ∧ Sto H' a ca) ⟨by rw [upd_same, List.take_zero]; rfl, same_new nD, S.new nD⟩ (fun _ _ _ _ => trivial) ?_ ?_
    · rintro n v H4 H5 hn ⟨h1, h2, h3⟩ ⟨rfl, c, hc, rfl⟩
      have hc' : (cs abc)[n]? = some c := by
        show abc.cps.toList[n]? = some c
        rw [Array.getElem?_toList]
        exact hc
      refine ⟨rfl, _, rfl, _, rfl, c, z, rfl, rfl, _, rfl, ?_⟩
      by_cases m : c ∈ cs z
      · refine iteN (by rw [decide_eq_true (show c ∈ z.cps.toList from m)]; rfl) ⟨?_, h2, h3⟩
        rw [h1, List.take_add_one, hc', List.filter_append, List.map_append]
        simp [m]
      · refine iteC (by rw [decide_eq_false (show ¬ c ∈ z.cps.toList from m)]; rfl) ⟨_, rfl, _, h1, ?_, ?_, ?_, ?_⟩
        · rw [List.length_map]
          refine Nat.lt_of_le_of_lt (List.length_filter_le _ _) (Nat.lt_of_le_of_lt (m := 1000000) ?_ (by decide))
          rw [List.length_take]
          have : (cs abc).length = 26 := by decide +kernel
          omega
        · rw [upd_same, List.take_add_one, hc', List.filter_append, List.map_append]
          simp [m]
        · exact (Same.refl H).grown nD h2 h1
        · exact h3.put (nD' nD)
    · rintro H' ⟨h1, h2, h3⟩
      have e26 : List.take abc.cps.size (cs abc) = cs abc := List.take_of_length_le (Nat.le_of_eq (cs_len abc))
      rw [e26] at h1
      have more : 0 < (((cs abc).filter (fun c => !decide (c ∈ cs z))).map fun c => V.str ⟨#[c]⟩).length := by
        rw [List.length_map]
        refine Nat.pos_of_ne_zero fun e => ?_
        have nil := List.length_eq_zero_iff.mp e
        have l : (cs abc).length ≤ (cs z).length := nodup_len _ _ (abc_asc.imp fun h => Nat.ne_of_lt h) fun c m => by
          have := List.filter_eq_nil_iff.mp nil c m
          simpa using this
        have : (cs abc).length = 26 := by decide +kernel
        rw [cs_len z] at l
        omega
      refine ⟨a, ca, h3, .inr ⟨D, _, rfl, (nD' nD).1, h1, more, ?_, fun v H2 m B2 S2 => ?_⟩⟩
      · rw [List.length_map]
        refine Nat.le_trans (List.length_filter_le _ _) ?_
        have : (cs abc).length = 26 := by decide +kernel
        omega
      · obtain ⟨c, hc, rfl⟩ := List.mem_map.mp m
        refine q c H2 (fun mz => ?_) ((But.same h2).trans B2) S2
        have := (List.mem_filter.mp hc).2
        rw [decide_eq_true mz] at this
        cases this

def sp_wrong_letter [Tabl] (_ : PySem.W.Frag) : Sp := fun vs H Q _ => ∃ (a ca : Addr) (z : Str), vs = [.ref a, .str z] ∧ Sto H a ca ∧ IsAlpha z ∧ ∀ (v : V) (H' : Hp), (¬ ∃ x, v = .str x ∧ x.length = 1 ∧ Over z x) → (∀ c, H c ≠ none → Deep c 1 H' v) → But a H H' → Sto H' a ca → Q v H'
theorem ok_wrong_letter (T : Txt K mg base) : FnOk P w K mg base CX0 (4 + 1) T.f_wrong_letter T.fd_wrong_letter ["store", "letters"] (sp_wrong_letter K) := by
  refine T.F_wrong_letter.ok sc_wrong_letter (fun vs H Q E h => ?_) (fun cdv A outer s H vs Q E hr h => ?_)
  · obtain ⟨a, ca, z, rfl, _⟩ := h
    rfl
  · obtain ⟨a, ca, z, rfl, S, al, q⟩ := h
    refine ⟨_, (pss_cons (ps_set (i := 2) sc_wrong_letter.nd rfl (.inl rfl) (pe_call (ok_pick T) (hr.mono (by first | decide | exact Nat.le_refl _)) (by rfl) T.g_pick T.F_pick.kp T.b_pick .nil pass0 (pa_cons (pv 0) (pa_cons (pv 1) pa_nil))))
      (pss_cons (ps_set (i := 3) sc_wrong_letter.nd rfl (.inl rfl) (pe_lst (pa_cons pe_str (pa_cons (pe_op op_add_str (pv 2) (pv 2)) (pa_cons (pe_op op_add_str (pv 2) (pe_ix ix_str (pv 1) pe_int (fun _ _ => rfl))) (pa_cons (pe_call (ok_stranger T) (hr.mono (by first | decide | exact Nat.le_refl _)) (by rfl) T.g_stranger T.F_stranger.kp T.b_stranger .nil pass0 (pa_cons (pv 0) (pa_cons (pv 1) pa_nil))) (pa_cons (pe_upper (pv 2)) (pa_cons pe_str (pa_cons pe_non (pa_cons pe_int pa_nil))))))))))
      (pss_one (ps_ret (pe_call (ok_pick T) (hr.mono (by first | decide | exact Nat.le_refl _)) (by rfl) T.g_pick T.F_pick.kp T.b_pick .nil pass0 (pa_cons (pv 0) (pa_cons (pe_op op_cat (pv 3) (pe_lst (pa_cons pe_bl (pa_cons (pe_lst (pa_cons (pv 2) pa_nil)) (pa_cons (pe_tup (pa_cons (pv 2) pa_nil)) pa_nil))))) pa_nil))))))), ?_⟩
    have hz : 0 < (cs z).length := by
      rw [cs_len]
      exact al.len1
    have c0 : (cs z)[0] ∈ cs z := List.getElem_mem hz
    have lz := al.len4
    have fit : ∀ x y : Str, x.length + y.length ≤ 1000 → x.length + y.length ≤ sizeLine := fun x y h => Nat.le_trans h (by decide)
    refine ⟨_, rfl, _, rfl, a, ca, S, .inl ⟨z, rfl, al.len1, al.small, fun c H1 hc B1 S1 => ?_⟩⟩
    refine ⟨_, rfl, _, rfl, _, _, rfl, rfl, fit _ _ (by show 1 + 1 ≤ 1000; decide), _, rfl, _, rfl, z, _, (cs z)[0], rfl, rfl, small_text al.small, atI_nat (j := 0) (List.getElem?_eq_getElem hz), _, _, rfl, rfl, fit _ _ (by show 1 + 1 ≤ 1000; decide), ?_⟩
    refine ⟨_, rfl, _, rfl, a, ca, z, rfl, S1, al.len4, fun d H2 hd B2 S2 => ?_⟩
    have hc' := al.low c hc
    obtain ⟨u, hu, ul⟩ := up_out c (by omega) hc'.1 hc'.2
    refine ⟨_, rfl, ⟨_, rfl⟩, _, rfl, rfl, by show 1 ≤ 5592405; decide, ?_⟩
    refine ⟨by show 8 ≤ sizeLine; decide, fun p0 n0 => ?_⟩
    have k0 := same_new (o := .lst [V.str (Str.ofString ""), .str ((⟨#[c]⟩ : Str) ++ ⟨#[c]⟩), .str ((⟨#[c]⟩ : Str) ++ ⟨#[(cs z)[0]]⟩), .str ⟨#[d]⟩, .str (Txt.upper ⟨#[c]⟩), .str (Str.ofString "-"), .non, .int 0]) n0
    have h0 : (upd H2 p0 (.lst [V.str (Str.ofString ""), .str ((⟨#[c]⟩ : Str) ++ ⟨#[c]⟩), .str ((⟨#[c]⟩ : Str) ++ ⟨#[(cs z)[0]]⟩), .str ⟨#[d]⟩, .str (Txt.upper ⟨#[c]⟩), .str (Str.ofString "-"), .non, .int 0])) p0 = some (.lst [V.str (Str.ofString ""), .str ((⟨#[c]⟩ : Str) ++ ⟨#[c]⟩), .str ((⟨#[c]⟩ : Str) ++ ⟨#[(cs z)[0]]⟩), .str ⟨#[d]⟩, .str (Txt.upper ⟨#[c]⟩), .str (Str.ofString "-"), .non, .int 0]) := upd_same
    have T0 := S2.new (o := .lst [V.str (Str.ofString ""), .str ((⟨#[c]⟩ : Str) ++ ⟨#[c]⟩), .str ((⟨#[c]⟩ : Str) ++ ⟨#[(cs z)[0]]⟩), .str ⟨#[d]⟩, .str (Txt.upper ⟨#[c]⟩), .str (Str.ofString "-"), .non, .int 0]) n0
    generalize upd H2 p0 (.lst [V.str (Str.ofString ""), .str ((⟨#[c]⟩ : Str) ++ ⟨#[c]⟩), .str ((⟨#[c]⟩ : Str) ++ ⟨#[(cs z)[0]]⟩), .str ⟨#[d]⟩, .str (Txt.upper ⟨#[c]⟩), .str (Str.ofString "-"), .non, .int 0]) = G0 at k0 h0 T0 ⊢
    refine ⟨_, rfl, _, rfl, _, rfl, by show 1 ≤ sizeLine; decide, fun p1 n1 => ?_⟩
    have k1 := same_new (o := .lst [.str ⟨#[c]⟩]) n1
    have h1 : (upd G0 p1 (.lst [.str ⟨#[c]⟩])) p1 = some (.lst [.str ⟨#[c]⟩]) := upd_same
    have T1 := T0.new (o := .lst [.str ⟨#[c]⟩]) n1
    have ne1 := (T0.ne n1).1
    generalize upd G0 p1 (.lst [.str ⟨#[c]⟩]) = G1 at k1 h1 T1 ⊢
    refine ⟨_, rfl, by show 1 ≤ sizeLine; decide, fun p2 n2 => ?_⟩
    have k2 := same_new (o := .tup [.str ⟨#[c]⟩]) n2
    have h2 : (upd G1 p2 (.tup [.str ⟨#[c]⟩])) p2 = some (.tup [.str ⟨#[c]⟩]) := upd_same
    have T2 := T1.new (o := .tup [.str ⟨#[c]⟩]) n2
    have ne2 := (T1.ne n2).1
    generalize upd G1 p2 (.tup [.str ⟨#[c]⟩]) = G2 at k2 h2 T2 ⊢
    refine ⟨by show 3 ≤ sizeLine; decide, fun p3 n3 => ?_⟩
    have k3 := same_new (o := .lst [.bl true, .ref p1, .ref p2]) n3
    have h3 : (upd G2 p3 (.lst [.bl true, .ref p1, .ref p2])) p3 = some (.lst [.bl true, .ref p1, .ref p2]) := upd_same
    have T3 := T2.new (o := .lst [.bl true, .ref p1, .ref p2]) n3
    generalize upd G2 p3 (.lst [.bl true, .ref p1, .ref p2]) = G3 at k3 h3 T3 ⊢
    refine ⟨p0, p3, _, _, rfl, rfl, k3 _ _ (k2 _ _ (k1 _ _ h0)), h3, by show 8 + 3 ≤ sizeLine; decide, fun p4 n4 => ?_⟩
    have k4 := same_new (o := .lst ([V.str (Str.ofString ""), .str ((⟨#[c]⟩ : Str) ++ ⟨#[c]⟩), .str ((⟨#[c]⟩ : Str) ++ ⟨#[(cs z)[0]]⟩), .str ⟨#[d]⟩, .str (Txt.upper ⟨#[c]⟩), .str (Str.ofString "-"), .non, .int 0] ++ [.bl true, .ref p1, .ref p2])) n4
    have h4 : (upd G3 p4 (.lst ([V.str (Str.ofString ""), .str ((⟨#[c]⟩ : Str) ++ ⟨#[c]⟩), .str ((⟨#[c]⟩ : Str) ++ ⟨#[(cs z)[0]]⟩), .str ⟨#[d]⟩, .str (Txt.upper ⟨#[c]⟩), .str (Str.ofString "-"), .non, .int 0] ++ [.bl true, .ref p1, .ref p2]))) p4 = some (.lst ([V.str (Str.ofString ""), .str ((⟨#[c]⟩ : Str) ++ ⟨#[c]⟩), .str ((⟨#[c]⟩ : Str) ++ ⟨#[(cs z)[0]]⟩), .str ⟨#[d]⟩, .str (Txt.upper ⟨#[c]⟩), .str (Str.ofString "-"), .non, .int 0] ++ [.bl true, .ref p1, .ref p2])) := upd_same
    have T4 := T3.new (o := .lst ([V.str (Str.ofString ""), .str ((⟨#[c]⟩ : Str) ++ ⟨#[c]⟩), .str ((⟨#[c]⟩ : Str) ++ ⟨#[(cs z)[0]]⟩), .str ⟨#[d]⟩, .str (Txt.upper ⟨#[c]⟩), .str (Str.ofString "-"), .non, .int 0] ++ [.bl true, .ref p1, .ref p2])) n4
    have ne4 := (T3.ne n4).1
    generalize upd G3 p4 (.lst ([V.str (Str.ofString ""), .str ((⟨#[c]⟩ : Str) ++ ⟨#[c]⟩), .str ((⟨#[c]⟩ : Str) ++ ⟨#[(cs z)[0]]⟩), .str ⟨#[d]⟩, .str (Txt.upper ⟨#[c]⟩), .str (Str.ofString "-"), .non, .int 0] ++ [.bl true, .ref p1, .ref p2])) = G4 at k4 h4 T4 ⊢
    have h1 := k4 _ _ (k3 _ _ (k2 _ _ h1))
    have h2 := k4 _ _ (k3 _ _ h2)
    have k := (((k0.trans k1).trans k2).trans k3).trans k4
    refine ⟨a, ca, T4, .inr ⟨p4, _, rfl, ne4, h4, by show 0 < 11; decide, by show 11 ≤ 1000000; decide, fun x H' mx B5 S5 => ?_⟩⟩
    have str : ∀ y : Str, (y.length = 1 → Over z y → False) → ¬ ∃ x, V.str y = .str x ∧ x.length = 1 ∧ Over z x := fun y h ⟨y', e, g1, g2⟩ => h (by cases e; exact g1) (by cases e; exact g2)
    have oth : ∀ y : V, (∀ t, y ≠ .str t) → ¬ ∃ x, y = .str x ∧ x.length = 1 ∧ Over z x := fun y h ⟨y', e, g⟩ => h y' e
    have ln : ∀ y : Str, y.length ≤ 10 → ∀ c n, Deep c n G4 (.str y) := fun y h c n => deep_str (by omega)
    have all : ∀ x ∈ ([V.str (Str.ofString ""), .str ((⟨#[c]⟩ : Str) ++ ⟨#[c]⟩), .str ((⟨#[c]⟩ : Str) ++ ⟨#[(cs z)[0]]⟩), .str ⟨#[d]⟩, .str (Txt.upper ⟨#[c]⟩), .str (Str.ofString "-"), .non, .int 0] ++ [.bl true, .ref p1, .ref p2] : List V), (¬ ∃ y, x = .str y ∧ y.length = 1 ∧ Over z y) ∧ ∀ c, p1 ≠ c → p2 ≠ c → Deep c 1 G4 x := by
      refine List.forall_mem_cons.mpr ⟨⟨str _ fun g _ => (by revert g; decide +kernel), fun c _ _ => ln _ (by decide +kernel) c _⟩, List.forall_mem_cons.mpr ⟨⟨str _ fun g _ => (by rw [length_app] at g; cases g), fun c _ _ => ln _ (by rw [length_app]; show 1 + 1 ≤ 10; decide) c _⟩, List.forall_mem_cons.mpr ⟨⟨str _ fun g _ => (by rw [length_app] at g; cases g), fun c _ _ => ln _ (by rw [length_app]; show 1 + 1 ≤ 10; decide) c _⟩, ?_⟩⟩⟩
      refine List.forall_mem_cons.mpr ⟨⟨str _ fun _ o => not_over (List.mem_singleton.mpr rfl) hd o, fun c _ _ => ln _ (by show 1 ≤ 10; decide) c _⟩, List.forall_mem_cons.mpr ⟨⟨str _ fun _ o => (by rw [hu] at o; exact not_over (List.mem_singleton.mpr rfl) (low_out al (.inl ul)) o), fun c _ _ => ln _ (by rw [hu]; show 1 ≤ 10; decide) c _⟩, List.forall_mem_cons.mpr ⟨⟨str _ fun _ o => not_over (c := 45) (by decide +kernel) (low_out al (.inl (by decide))) o, fun c _ _ => ln _ (by decide +kernel) c _⟩, ?_⟩⟩⟩
      refine List.forall_mem_cons.mpr ⟨⟨oth _ fun t e => (by cases e), fun c c1 c2 => deep_non⟩, List.forall_mem_cons.mpr ⟨⟨oth _ fun t e => (by cases e), fun c c1 c2 => deep_int (small_pow (by decide))⟩, List.forall_mem_cons.mpr ⟨⟨oth _ fun t e => (by cases e), fun c c1 c2 => deep_bl⟩, List.forall_mem_cons.mpr ⟨⟨oth _ fun t e => (by cases e), fun c c1 c2 => deep_one (.inl h1) c1 (ln _ (by show 1 ≤ 10; decide) c)⟩, List.forall_mem_cons.mpr ⟨⟨oth _ fun t e => (by cases e), fun c c1 c2 => deep_one (.inr h2) c2 (ln _ (by show 1 ≤ 10; decide) c)⟩, fun x m => absurd m List.not_mem_nil⟩⟩⟩⟩⟩
    obtain ⟨o1, o2⟩ := all x mx
    have f1 := (B1.trans B2).free (k0.free n1) ne1
    have f2 := (B1.trans B2).free (k0.free (k1.free n2)) ne2
    exact q x H' o1 (fun c hc => (o2 c (fun e => hc (by rw [← e]; exact f1)) fun e => hc (by rw [← e]; exact f2)).put B5 (o2 a ne1 ne2)) (((B1.trans B2).trans (But.same k)).trans B5) S5

/-- no number from 0 to high -/
def sp_wrong_number [Tabl] (_ : PySem.W.Frag) : Sp := fun vs H Q _ => ∃ (a ca : Addr) (hi : Int), vs = [.ref a, .int hi] ∧ Sto H a ca ∧ -1 ≤ hi ∧ hi ≤ 64 ∧ ∀ (v : V) (H' : Hp), inR v 0 hi = false → (∀ c, H c ≠ none → Deep c 1 H' v) → But a H H' → Sto H' a ca → Q v H'
theorem ok_wrong_number (T : Txt K mg base) : FnOk P w K mg base CX0 (3 + 1) T.f_wrong_number T.fd_wrong_number ["store", "high"] (sp_wrong_number K) := by
  refine T.F_wrong_number.ok sc_wrong_number (fun vs H Q E h => ?_) (fun cdv A outer s H vs Q E hr h => ?_)
  · obtain ⟨a, ca, hi, rfl, _⟩ := h
    rfl
  · obtain ⟨a, ca, hi, rfl, S, h0, h64, q⟩ := h
    refine ⟨_, (pss_one (ps_ret (pe_call (ok_pick T) (hr.mono (by first | decide | exact Nat.le_refl _)) (by rfl) T.g_pick T.F_pick.kp T.b_pick .nil pass0 (pa_cons (pv 0) (pa_cons (pe_lst (pa_cons (pe_un un_neg pe_int) (pa_cons (pe_op op_add (pv 1) pe_int) (pa_cons (pe_op op_add (pv 1) pe_int) (pa_cons pe_bl (pa_cons pe_bl (pa_cons pe_non (pa_cons pe_str (pa_cons (pe_lst (pa_cons pe_int pa_nil)) (pa_cons (pe_tup (pa_cons pe_int pa_nil)) (pa_cons (pe_op op_pow pe_int pe_int) (pa_cons (pe_op op_sub pe_int (pe_op op_pow pe_int pe_int)) pa_nil)))))))))))) pa_nil))))), ?_⟩
    refine ⟨_, rfl, _, rfl, _, rfl, _, _, rfl, rfl, _, rfl, _, _, rfl, rfl, by show 1 ≤ sizeLine; decide, fun p1 n1 => ⟨by show 1 ≤ sizeLine; decide, fun p2 n2 => ⟨_, _, rfl, rfl, ⟨by decide, by decide, by decide⟩, _, _, rfl, rfl, ⟨by decide, by decide, by decide⟩, _, _, rfl, rfl, by show 11 ≤ sizeLine; decide, fun p3 n3 => ?_⟩⟩⟩
    have S2 := S.new (o := .lst [.int 0]) n1
    have S3 := S2.new (o := .tup [.int 0]) n2
    have k3 := same_new (o := .lst [.int (-1), .int (hi + 1), .int (hi + 2), .bl true, .bl false, .non, .str (Str.ofString "0"), .ref p1, .ref p2, .int ((10 : Int) ^ (59 : Int).toNat), .int (1 - (10 : Int) ^ (60 : Int).toNat)]) n3
    have k2 := (same_new (o := .tup [.int 0]) n2).trans k3
    have k1 := (same_new (o := .lst [.int 0]) n1).trans k2
    have e1 := k2 _ _ (upd_same (o := .lst [.int 0]))
    have e2 := k3 _ _ (upd_same (o := .tup [.int 0]))
    have S4 := S3.new (o := .lst [.int (-1), .int (hi + 1), .int (hi + 2), .bl true, .bl false, .non, .str (Str.ofString "0"), .ref p1, .ref p2, .int ((10 : Int) ^ (59 : Int).toNat), .int (1 - (10 : Int) ^ (60 : Int).toNat)]) n3
    refine ⟨a, ca, S4, .inr ⟨p3, _, rfl, (S3.ne n3).1, upd_same, by show 0 < 11; decide, by show 11 ≤ 1000000; decide, fun x H' mx B5 S5 => ?_⟩⟩
    have bnd : ∀ i : Int, i.natAbs < 2 ^ 200 → i.natAbs < 2 ^ 13000 := fun i h => Nat.lt_of_lt_of_le h (Nat.pow_le_pow_right (by decide) (by decide))
    have t59 : (10 : Int) ^ (59 : Int).toNat = ((10 ^ 59 : Nat) : Int) := by decide
    have t60 : (10 : Int) ^ (60 : Int).toNat = ((10 ^ 60 : Nat) : Int) := by decide
    have out : ∀ i : Int, (i < 0 ∨ hi < i) → inR (.int i) 0 hi = false := fun i h => by
      show (decide (0 ≤ i) && decide (i ≤ hi)) = false
      rcases h with h | h
      · rw [decide_eq_false (by omega : ¬ 0 ≤ i)]; rfl
      · rw [decide_eq_false (by omega : ¬ i ≤ hi), Bool.and_false]
    have sm : ∀ i : Int, 0 ≤ i → i ≤ 66 → i.natAbs < 2 ^ 13000 := fun i h1 h2 => bnd i (by
      have : (100 : Nat) < 2 ^ 200 := by decide
      omega)
    have all : ∀ Hf : Hp, Hf p1 = some (.lst [.int 0]) → Hf p2 = some (.tup [.int 0]) → ∀ x ∈ ([.int (-1), .int (hi + 1), .int (hi + 2), .bl true, .bl false, .non, .str (Str.ofString "0"), .ref p1, .ref p2, .int ((10 : Int) ^ (59 : Int).toNat), .int (1 - (10 : Int) ^ (60 : Int).toNat)] : List V), inR x 0 hi = false ∧ ∀ c, p1 ≠ c → p2 ≠ c → Deep c 1 Hf x := by
      intro Hf e1 e2
      refine List.forall_mem_cons.mpr ⟨⟨out _ (.inl (by decide)), fun _ _ _ => deep_int (bnd _ (by decide))⟩, List.forall_mem_cons.mpr ⟨⟨out _ (.inr (by omega)), fun _ _ _ => deep_int (sm _ (by omega) (by omega))⟩, List.forall_mem_cons.mpr ⟨⟨out _ (.inr (by omega)), fun _ _ _ => deep_int (sm _ (by omega) (by omega))⟩, ?_⟩⟩⟩
      refine List.forall_mem_cons.mpr ⟨⟨rfl, fun c c1 c2 => deep_bl⟩, List.forall_mem_cons.mpr ⟨⟨rfl, fun c c1 c2 => deep_bl⟩, List.forall_mem_cons.mpr ⟨⟨rfl, fun c c1 c2 => deep_non⟩, List.forall_mem_cons.mpr ⟨⟨rfl, fun c c1 c2 => deep_str (by decide +kernel)⟩, ?_⟩⟩⟩⟩
      refine List.forall_mem_cons.mpr ⟨⟨rfl, fun c c1 c2 => deep_one (.inl e1) c1 fun _ => deep_int (bnd _ (by decide))⟩, List.forall_mem_cons.mpr ⟨⟨rfl, fun c c1 c2 => deep_one (.inr e2) c2 fun _ => deep_int (bnd _ (by decide))⟩, ?_⟩⟩
      refine List.forall_mem_cons.mpr ⟨⟨out _ (.inr (by rw [t59]; have : (64 : Int) < ((10 ^ 59 : Nat) : Int) := (by decide); omega)), fun _ _ _ => deep_int (bnd _ (by rw [t59]; decide))⟩, List.forall_mem_cons.mpr ⟨⟨out _ (.inl (by rw [t60]; decide)), fun _ _ _ => deep_int (bnd _ (by rw [t60]; decide))⟩, fun x m => absurd m List.not_mem_nil⟩⟩
    obtain ⟨o1, o2⟩ := all _ e1 e2 x mx
    have f2 := (same_new (o := .lst [.int 0]) n1).free n2
    exact q x H' o1 (fun c hc => (o2 c (fun e => hc (by rw [← e]; exact n1)) fun e => hc (by rw [← e]; exact f2)).put B5 (o2 a (S.ne n1).1 (S2.ne n2).1)) ((But.same k1).trans B5) S5

theorem cut_le (x : Str) (lo hi : Option Int) : (cutS x lo hi).length ≤ x.length := by
  rw [← cs_len, cs_cut, List.length_take, List.length_drop, cs_len]
  omega
def sp_wrong_word [Tabl] (_ : PySem.W.Frag) : Sp := fun vs H Q _ => ∃ (a ca : Addr) (z : Str), vs = [.ref a, .str z] ∧ Sto H a ca ∧ IsAlpha z ∧ ∀ (v : V) (H' : Hp), (¬ ∃ x, v = .str x ∧ Over z x ∧ x.length ≤ 400) → (∀ c, H c ≠ none → Deep c 1 H' v) → But a H H' → Sto H' a ca → Q v H'
theorem ok_wrong_word (T : Txt K mg base) : FnOk P w K mg base CX0 (5 + 1) T.f_wrong_word T.fd_wrong_word ["store", "letters"] (sp_wrong_word K) := by
  refine T.F_wrong_word.ok sc_wrong_word (fun vs H Q E h => ?_) (fun cdv A outer s H vs Q E hr h => ?_)
  · obtain ⟨a, ca, z, rfl, _⟩ := h
    rfl
  · obtain ⟨a, ca, z, rfl, S, al, q⟩ := h
    refine ⟨_, (pss_cons (ps_set (i := 2) sc_wrong_word.nd rfl (.inl rfl) (pe_call (ok_word T) (hr.mono (by first | decide | exact Nat.le_refl _)) (by rfl) T.g_word T.F_word.kp T.b_word .nil pass0 (pa_cons (pv 0) (pa_cons (pv 1) (pa_cons pe_int pa_nil)))))
      (pss_cons (ps_set (i := 3) sc_wrong_word.nd rfl (.inl rfl) (pe_call (ok_take T) (hr.mono (by first | decide | exact Nat.le_refl _)) (by rfl) T.g_take T.F_take.kp T.b_take .nil pass0 (pa_cons (pv 0) (pa_cons (pe_op op_add (pe_callB call_len_str (by rfl) T.z_len PySem.boot_len (pa_cons (pv 2) pa_nil)) pe_int) pa_nil))))
      (pss_cons (ps_set (i := 4) sc_wrong_word.nd rfl (.inl rfl) (pe_op op_add_str (pe_op op_add_str (pe_slice sl_str (pv 2) po_none (po_some (pv 3))) (pe_call (ok_stranger T) (hr.mono (by first | decide | exact Nat.le_refl _)) (by rfl) T.g_stranger T.F_stranger.kp T.b_stranger .nil pass0 (pa_cons (pv 0) (pa_cons (pv 1) pa_nil)))) (pe_slice sl_str (pv 2) (po_some (pv 3)) po_none)))
      (pss_cons (ps_set (i := 5) sc_wrong_word.nd rfl (.inl rfl) (pe_lst (pa_cons (pv 4) (pa_cons (pv 4) (pa_cons pe_str (pa_cons (pe_op op_add_str (pv 2) pe_str) (pa_cons (pe_op op_add_str (pv 2) pe_str) (pa_cons (pe_upper (pe_ix ix_str (pv 1) pe_int (fun _ _ => rfl))) (pa_cons pe_non (pa_cons pe_int (pa_cons pe_bl (pa_cons (pe_lst (pa_cons (pv 2) pa_nil)) (pa_cons (pe_tup (pa_cons (pv 2) pa_nil)) pa_nil)))))))))))))
      (pss_one (ps_ret (pe_call (ok_pick T) (hr.mono (by first | decide | exact Nat.le_refl _)) (by rfl) T.g_pick T.F_pick.kp T.b_pick .nil pass0 (pa_cons (pv 0) (pa_cons (pe_op op_cat (pv 5) (pe_lst (pa_cons (pe_call (ok_long_word T) (hr.mono (by first | decide | exact Nat.le_refl _)) (by rfl) T.g_long_word T.F_long_word.kp T.b_long_word .nil pass0 (pa_cons (pv 0) (pa_cons (pv 1) (pa_cons pe_int pa_nil)))) pa_nil))) pa_nil))))))))), ?_⟩
    have hz : 0 < (cs z).length := by
      rw [cs_len]
      exact al.len1
    have c0 : (cs z)[0] ∈ cs z := List.getElem_mem hz
    have lz := al.len4
    have fit : ∀ x y : Str, x.length + y.length ≤ 1000 → x.length + y.length ≤ sizeLine := fun x y h => Nat.le_trans h (by decide)
    refine ⟨_, rfl, _, rfl, a, ca, z, 3, rfl, S, al.len1, al.small, by decide, fun x H1 ox lx B1 S1 => ?_⟩
    have lx : (x.length : Int) ≤ 3 := lx
    have sx : x.length ≤ sizeLine := small_text (by omega)
    refine ⟨_, rfl, _, rfl, x, rfl, sx, _, _, rfl, rfl, a, ca, (x.length : Int) + 1, rfl, S1, by omega, fun e H2 e0 e1 B2 S2 => ?_⟩
    obtain ⟨e', rfl⟩ := Int.eq_ofNat_of_zero_le e0
    have l1 := cut_le x none (some (e' : Int))
    have l2 := cut_le x (some (e' : Int)) none
    refine ⟨_, rfl, _, rfl, _, rfl, x, rfl, sx, _, rfl, _, rfl, a, ca, z, rfl, S2, al.len4, fun d H3 hd B3 S3 => ?_⟩
    refine ⟨_, _, rfl, rfl, fit _ _ (by show _ + 1 ≤ 1000; omega), _, rfl, _, rfl, _, rfl, x, rfl, sx, _, _, rfl, rfl, fit _ _ (by rw [length_app]; show _ + 1 + _ ≤ 1000; omega), ?_⟩
    have lbad : (cutS x none (some (e' : Int)) ++ ⟨#[d]⟩ ++ cutS x (some (e' : Int)) none).length ≤ 10 := by
      rw [length_app, length_app]
      show _ + 1 + _ ≤ 10
      omega
    have dbad : d ∈ cs (cutS x none (some (e' : Int)) ++ ⟨#[d]⟩ ++ cutS x (some (e' : Int)) none) := by
      rw [cs_app, cs_app]
      exact List.mem_append_left _ (List.mem_append_right _ (List.mem_singleton.mpr rfl))
    have c0' := al.low _ c0
    obtain ⟨u, hu, ul⟩ := up_out (cs z)[0] (by omega) c0'.1 c0'.2
    -- the row
    refine ⟨_, rfl, _, rfl, _, rfl, _, _, rfl, rfl, fit _ _ (by show _ + 1 ≤ 1000; omega), _, rfl, _, _, rfl, rfl, fit _ _ (by show _ + 1 ≤ 1000; omega), ?_⟩
    refine ⟨_, rfl, z, _, (cs z)[0], rfl, rfl, small_text al.small, atI_nat (j := 0) (List.getElem?_eq_getElem hz), ⟨_, rfl⟩, _, rfl, rfl, by show 1 ≤ 5592405; decide, ?_⟩
    refine ⟨_, rfl, by show 1 ≤ sizeLine; decide, fun p1 n1 => ?_⟩
    have k1 := same_new (o := .lst [.str x]) n1
    have h1 : (upd H3 p1 (.lst [.str x])) p1 = some (.lst [.str x]) := upd_same
    have T1 := S3.new (o := .lst [.str x]) n1
    have ne1 := (S3.ne n1).1
    generalize upd H3 p1 (.lst [.str x]) = G1 at k1 h1 T1 ⊢
    refine ⟨_, rfl, by show 1 ≤ sizeLine; decide, fun p2 n2 => ?_⟩
    have k2 := same_new (o := .tup [.str x]) n2
    have h2 : (upd G1 p2 (.tup [.str x])) p2 = some (.tup [.str x]) := upd_same
    have T2 := T1.new (o := .tup [.str x]) n2
    have ne2 := (T1.ne n2).1
    have h1 := k2 _ _ h1
    generalize upd G1 p2 (.tup [.str x]) = G2 at k2 h1 h2 T2 ⊢
    refine ⟨by show 11 ≤ sizeLine; decide, fun p0 n0 => ?_⟩
    have k0 := same_new (o := .lst [V.str (cutS x none (some (e' : Int)) ++ ⟨#[d]⟩ ++ cutS x (some (e' : Int)) none), .str (cutS x none (some (e' : Int)) ++ ⟨#[d]⟩ ++ cutS x (some (e' : Int)) none), .str (Str.ofString "-"), .str (x ++ Str.ofString "\n"), .str (x ++ Str.ofString " "), .str (Txt.upper ⟨#[(cs z)[0]]⟩), .non, .int 0, .bl true, .ref p1, .ref p2]) n0
    have h0 : (upd G2 p0 (.lst [V.str (cutS x none (some (e' : Int)) ++ ⟨#[d]⟩ ++ cutS x (some (e' : Int)) none), .str (cutS x none (some (e' : Int)) ++ ⟨#[d]⟩ ++ cutS x (some (e' : Int)) none), .str (Str.ofString "-"), .str (x ++ Str.ofString "\n"), .str (x ++ Str.ofString " "), .str (Txt.upper ⟨#[(cs z)[0]]⟩), .non, .int 0, .bl true, .ref p1, .ref p2])) p0 = some (.lst [V.str (cutS x none (some (e' : Int)) ++ ⟨#[d]⟩ ++ cutS x (some (e' : Int)) none), .str (cutS x none (some (e' : Int)) ++ ⟨#[d]⟩ ++ cutS x (some (e' : Int)) none), .str (Str.ofString "-"), .str (x ++ Str.ofString "\n"), .str (x ++ Str.ofString " "), .str (Txt.upper ⟨#[(cs z)[0]]⟩), .non, .int 0, .bl true, .ref p1, .ref p2]) := upd_same
    have T0 := T2.new (o := .lst [V.str (cutS x none (some (e' : Int)) ++ ⟨#[d]⟩ ++ cutS x (some (e' : Int)) none), .str (cutS x none (some (e' : Int)) ++ ⟨#[d]⟩ ++ cutS x (some (e' : Int)) none), .str (Str.ofString "-"), .str (x ++ Str.ofString "\n"), .str (x ++ Str.ofString " "), .str (Txt.upper ⟨#[(cs z)[0]]⟩), .non, .int 0, .bl true, .ref p1, .ref p2]) n0
    have ne0 := (T2.ne n0).1
    have h1 := k0 _ _ h1
    have h2 := k0 _ _ h2
    generalize upd G2 p0 (.lst [V.str (cutS x none (some (e' : Int)) ++ ⟨#[d]⟩ ++ cutS x (some (e' : Int)) none), .str (cutS x none (some (e' : Int)) ++ ⟨#[d]⟩ ++ cutS x (some (e' : Int)) none), .str (Str.ofString "-"), .str (x ++ Str.ofString "\n"), .str (x ++ Str.ofString " "), .str (Txt.upper ⟨#[(cs z)[0]]⟩), .non, .int 0, .bl true, .ref p1, .ref p2]) = G0 at k0 h0 h1 h2 T0 ⊢
    refine ⟨_, rfl, _, rfl, _, rfl, _, rfl, a, ca, z, 401, rfl, T0, al.len1, al.small, by decide, by decide, fun y G5 oy ly B5 T5 => ?_⟩
    have ly : (y.length : Int) = 401 := ly
    have h0 := B5 _ _ ne0 h0
    have h1 := B5 _ _ ne1 h1
    have h2 := B5 _ _ ne2 h2
    refine ⟨by show 1 ≤ sizeLine; decide, fun p3 n3 => ?_⟩
    have k3 := same_new (o := .lst [.str y]) n3
    have h3 : (upd G5 p3 (.lst [.str y])) p3 = some (.lst [.str y]) := upd_same
    have T3 := T5.new (o := .lst [.str y]) n3
    have h0 := k3 _ _ h0
    generalize upd G5 p3 (.lst [.str y]) = G3 at k3 h3 h0 T3 ⊢
    refine ⟨p0, p3, _, _, rfl, rfl, h0, h3, by show 11 + 1 ≤ sizeLine; decide, fun p4 n4 => ?_⟩
    have k4 := same_new (o := .lst ([V.str (cutS x none (some (e' : Int)) ++ ⟨#[d]⟩ ++ cutS x (some (e' : Int)) none), .str (cutS x none (some (e' : Int)) ++ ⟨#[d]⟩ ++ cutS x (some (e' : Int)) none), .str (Str.ofString "-"), .str (x ++ Str.ofString "\n"), .str (x ++ Str.ofString " "), .str (Txt.upper ⟨#[(cs z)[0]]⟩), .non, .int 0, .bl true, .ref p1, .ref p2] ++ [.str y])) n4
    have h4 : (upd G3 p4 (.lst ([V.str (cutS x none (some (e' : Int)) ++ ⟨#[d]⟩ ++ cutS x (some (e' : Int)) none), .str (cutS x none (some (e' : Int)) ++ ⟨#[d]⟩ ++ cutS x (some (e' : Int)) none), .str (Str.ofString "-"), .str (x ++ Str.ofString "\n"), .str (x ++ Str.ofString " "), .str (Txt.upper ⟨#[(cs z)[0]]⟩), .non, .int 0, .bl true, .ref p1, .ref p2] ++ [.str y]))) p4 = some (.lst ([V.str (cutS x none (some (e' : Int)) ++ ⟨#[d]⟩ ++ cutS x (some (e' : Int)) none), .str (cutS x none (some (e' : Int)) ++ ⟨#[d]⟩ ++ cutS x (some (e' : Int)) none), .str (Str.ofString "-"), .str (x ++ Str.ofString "\n"), .str (x ++ Str.ofString " "), .str (Txt.upper ⟨#[(cs z)[0]]⟩), .non, .int 0, .bl true, .ref p1, .ref p2] ++ [.str y])) := upd_same
    have T4 := T3.new (o := .lst ([V.str (cutS x none (some (e' : Int)) ++ ⟨#[d]⟩ ++ cutS x (some (e' : Int)) none), .str (cutS x none (some (e' : Int)) ++ ⟨#[d]⟩ ++ cutS x (some (e' : Int)) none), .str (Str.ofString "-"), .str (x ++ Str.ofString "\n"), .str (x ++ Str.ofString " "), .str (Txt.upper ⟨#[(cs z)[0]]⟩), .non, .int 0, .bl true, .ref p1, .ref p2] ++ [.str y])) n4
    have ne4 := (T3.ne n4).1
    have h1 := k4 _ _ (k3 _ _ h1)
    have h2 := k4 _ _ (k3 _ _ h2)
    generalize upd G3 p4 (.lst ([V.str (cutS x none (some (e' : Int)) ++ ⟨#[d]⟩ ++ cutS x (some (e' : Int)) none), .str (cutS x none (some (e' : Int)) ++ ⟨#[d]⟩ ++ cutS x (some (e' : Int)) none), .str (Str.ofString "-"), .str (x ++ Str.ofString "\n"), .str (x ++ Str.ofString " "), .str (Txt.upper ⟨#[(cs z)[0]]⟩), .non, .int 0, .bl true, .ref p1, .ref p2] ++ [.str y])) = G4 at k4 h4 h1 h2 T4 ⊢
    refine ⟨a, ca, T4, .inr ⟨p4, _, rfl, ne4, h4, by show 0 < 12; decide, by show 12 ≤ 1000000; decide, fun w H' mx B6 S6 => ?_⟩⟩
    have str : ∀ y : Str, (Over z y → y.length ≤ 400 → False) → ¬ ∃ x, V.str y = .str x ∧ Over z x ∧ x.length ≤ 400 := fun y h ⟨y', e, g1, g2⟩ => h (by cases e; exact g1) (by cases e; exact g2)
    have oth : ∀ y : V, (∀ t, y ≠ .str t) → ¬ ∃ x, y = .str x ∧ Over z x ∧ x.length ≤ 400 := fun y h ⟨y', e, g⟩ => h y' e
    have ln : ∀ y : Str, y.length ≤ 1000 → ∀ c n, Deep c n G4 (.str y) := fun y h c n => deep_str (by omega)
    have all : ∀ w ∈ ([V.str (cutS x none (some (e' : Int)) ++ ⟨#[d]⟩ ++ cutS x (some (e' : Int)) none), .str (cutS x none (some (e' : Int)) ++ ⟨#[d]⟩ ++ cutS x (some (e' : Int)) none), .str (Str.ofString "-"), .str (x ++ Str.ofString "\n"), .str (x ++ Str.ofString " "), .str (Txt.upper ⟨#[(cs z)[0]]⟩), .non, .int 0, .bl true, .ref p1, .ref p2] ++ [.str y] : List V), (¬ ∃ y, w = .str y ∧ Over z y ∧ y.length ≤ 400) ∧ ∀ c, p1 ≠ c → p2 ≠ c → Deep c 1 G4 w := by
      refine List.forall_mem_cons.mpr ⟨⟨str _ fun o _ => not_over dbad hd o, fun c _ _ => ln _ (by omega) c _⟩, List.forall_mem_cons.mpr ⟨⟨str _ fun o _ => not_over dbad hd o, fun c _ _ => ln _ (by omega) c _⟩, List.forall_mem_cons.mpr ⟨⟨str _ fun o _ => not_over (c := 45) (by decide +kernel) (low_out al (.inl (by decide))) o, fun c _ _ => ln _ (by decide +kernel) c _⟩, ?_⟩⟩⟩
      refine List.forall_mem_cons.mpr ⟨⟨str _ fun o _ => not_over (c := 10) (by rw [cs_app]; exact List.mem_append_right _ (by decide +kernel)) (low_out al (.inl (by decide))) o, fun c _ _ => ln _ (by rw [length_app]; show _ + 1 ≤ 1000; omega) c _⟩, List.forall_mem_cons.mpr ⟨⟨str _ fun o _ => not_over (c := 32) (by rw [cs_app]; exact List.mem_append_right _ (by decide +kernel)) (low_out al (.inl (by decide))) o, fun c _ _ => ln _ (by rw [length_app]; show _ + 1 ≤ 1000; omega) c _⟩, ?_⟩⟩
      refine List.forall_mem_cons.mpr ⟨⟨str _ fun o _ => (by rw [hu] at o; exact not_over (List.mem_singleton.mpr rfl) (low_out al (.inl ul)) o), fun c _ _ => ln _ (by rw [hu]; show 1 ≤ 1000; decide) c _⟩, ?_⟩
      refine List.forall_mem_cons.mpr ⟨⟨oth _ fun t e => (by cases e), fun c c1 c2 => deep_non⟩, List.forall_mem_cons.mpr ⟨⟨oth _ fun t e => (by cases e), fun c c1 c2 => deep_int (small_pow (by decide))⟩, List.forall_mem_cons.mpr ⟨⟨oth _ fun t e => (by cases e), fun c c1 c2 => deep_bl⟩, List.forall_mem_cons.mpr ⟨⟨oth _ fun t e => (by cases e), fun c c1 c2 => deep_one (.inl h1) c1 (ln _ (by omega) c)⟩, List.forall_mem_cons.mpr ⟨⟨oth _ fun t e => (by cases e), fun c c1 c2 => deep_one (.inr h2) c2 (ln _ (by omega) c)⟩, List.forall_mem_cons.mpr ⟨⟨str _ fun _ l => (by omega), fun c _ _ => ln _ (by omega) c _⟩, fun x m => absurd m List.not_mem_nil⟩⟩⟩⟩⟩⟩
    obtain ⟨o1, o2⟩ := all w mx
    have kk := (k1.trans k2).trans k0
    have f1 := ((B1.trans B2).trans B3).free n1 ne1
    have f2 := ((B1.trans B2).trans B3).free (k1.free n2) ne2
    exact q w H' o1 (fun c hc => (o2 c (fun e => hc (by rw [← e]; exact f1)) fun e => hc (by rw [← e]; exact f2)).put B6 (o2 a ne1 ne2)) ((((((B1.trans B2).trans B3).trans (But.same kk)).trans B5).trans (But.same (k3.trans k4))).trans B6) S6

/-- no entry -/
def sp_wrong_entry [Tabl] (_ : PySem.W.Frag) : Sp := fun vs H Q _ => ∃ (a ca p : Addr) (at_ : Int) (r z : Str) (n : Int) (xs : List V), vs = [.ref a, .ref p, .int at_] ∧ Sto H a ca ∧ p ≠ a ∧ H p = some (.lst (.str r :: .str z :: .int n :: xs)) ∧ IsAlpha r ∧ IsAlpha z ∧ 0 ≤ n ∧ n ≤ 64 ∧
  ∀ (v : V) (H' : Hp), (at_ = 4 → ¬ ArcV H' r z n v) → (at_ ≠ 4 → ¬ PairV H' z n v) → (∀ c, H c ≠ none → Deep c 2 H' v) → But a H H' → Sto H' a ca → Q v H'
theorem ok_wrong_entry (T : Txt K mg base) : FnOk P w K mg base CX0 (6 + 1) T.f_wrong_entry T.fd_wrong_entry ["store", "parts", "at"] (sp_wrong_entry K) := by
  refine T.F_wrong_entry.ok sc_wrong_entry (fun vs H Q E h => ?_) (fun cdv A outer s H vs Q E hr h => ?_)
  · obtain ⟨a, ca, p, at_, r, z, n, xs, rfl, _⟩ := h
    rfl
  · obtain ⟨a, ca, p, at_, r, z, n, xs, rfl, S, pa, hp, ar, az, n0, n64, q⟩ := h
    refine ⟨_, (pss_cons (ps_set (i := 3) sc_wrong_entry.nd rfl (.inl rfl) (pe_call (ok_good_entry T) (hr.mono (by first | decide | exact Nat.le_refl _)) (by rfl) T.g_good_entry T.F_good_entry.kp T.b_good_entry .nil pass0 (pa_cons (pv 0) (pa_cons (pv 1) (pa_cons (pv 2) pa_nil)))))
      (pss_cons (ps_set (i := 4) sc_wrong_entry.nd rfl (.inl rfl) (pe_call (ok_take T) (hr.mono (by first | decide | exact Nat.le_refl _)) (by rfl) T.g_take T.F_take.kp T.b_take .nil pass0 (pa_cons (pv 0) (pa_cons pe_int pa_nil))))
      (pss_cons (ps_if (pt_cmpR op_lt (pv 4) pe_int (nomark _)) (pss_one (ps_ret (pe_ix ix_list (pe_lst (pa_cons (pe_callTy call_list_of (by rfl) T.z_list (by decide +kernel) (pa_cons (pv 3) pa_nil)) (pa_cons (pe_slice sl_tup (pv 3) po_none (po_some (pe_un un_neg pe_int))) (pa_cons (pe_op op_catT (pv 3) (pe_tup (pa_cons (pe_ix ix_tup (pv 3) (pe_un un_neg pe_int) (fun _ _ => rfl)) pa_nil))) (pa_cons (pe_tup pa_nil) (pa_cons pe_non (pa_cons (pe_ix ix_list (pv 1) pe_int (fun _ _ => rfl)) pa_nil))))))) (pv 4) (fun _ _ => rfl)))) pss_nil)
      (pss_cons (ps_set (i := 5) sc_wrong_entry.nd rfl (.inl rfl) (pe_callTy call_list_of (by rfl) T.z_list (by decide +kernel) (pa_cons (pv 3) pa_nil)))
      (pss_cons (ps_set (i := 6) sc_wrong_entry.nd rfl (.inl rfl) (pe_call (ok_take T) (hr.mono (by first | decide | exact Nat.le_refl _)) (by rfl) T.g_take T.F_take.kp T.b_take .nil pass0 (pa_cons (pv 0) (pa_cons (pe_callB call_len_seq (by rfl) T.z_len PySem.boot_len (pa_cons (pv 5) pa_nil)) pa_nil))))
      (C8.pss_cut (ps_if (PW.pt (pw_or (pt_cmpR op_eq (pv 6) pe_int (nomark _)) (pw_or1 (pt_cmpR op_eq (pv 6) pe_int (nomark _))))) (pss_one (ps_asg (pe_call (ok_wrong_number T) (hr.mono (by first | decide | exact Nat.le_refl _)) (by rfl) T.g_wrong_number T.F_wrong_number.kp T.b_wrong_number .nil pass0 (pa_cons (pv 0) (pa_cons (pe_op op_sub (pe_ix ix_list (pv 1) pe_int (fun _ _ => rfl)) pe_int) pa_nil))) (pg_sub (pv 5) (pv 6) set_list))) (pss_one (ps_if (PW.pt (pw_and (pt_cmpR op_eq (pv 6) pe_int (nomark _)) (pw_and1 (pt_cmpR op_eq (pv 2) pe_int (nomark _))))) (pss_one (ps_asg (pe_call (ok_wrong_letter T) (hr.mono (by first | decide | exact Nat.le_refl _)) (by rfl) T.g_wrong_letter T.F_wrong_letter.kp T.b_wrong_letter .nil pass0 (pa_cons (pv 0) (pa_cons (pe_ix ix_list (pv 1) pe_int (fun _ _ => rfl)) pa_nil))) (pg_sub (pv 5) (pv 6) set_list))) (pss_one (ps_asg (pe_call (ok_wrong_word T) (hr.mono (by first | decide | exact Nat.le_refl _)) (by rfl) T.g_wrong_word T.F_wrong_word.kp T.b_wrong_word .nil pass0 (pa_cons (pv 0) (pa_cons (pe_ix ix_list (pv 1) pe_int (fun _ _ => rfl)) pa_nil))) (pg_sub (pv 5) (pv 6) set_list))))))
      (pss_one (ps_ret (pe_callTy call_tuple_of (by rfl) T.z_tuple (by decide +kernel) (pa_cons (pv 5) pa_nil)))))))))), ?_⟩
    have hx0 : atI (.str r :: .str z :: .int n :: xs) ((0 : Nat) : Int) = some (.str r) := atI_nat rfl
    have hx1 : atI (.str r :: .str z :: .int n :: xs) ((1 : Nat) : Int) = some (.str z) := atI_nat rfl
    have hx2 : atI (.str r :: .str z :: .int n :: xs) ((2 : Nat) : Int) = some (.int n) := atI_nat rfl
    have smI : ∀ i : Int, 0 ≤ i → i ≤ 1000 → i.natAbs < 2 ^ 13000 := fun i h1 h2 => Nat.lt_of_lt_of_le (show i.natAbs < 2 ^ 10 by show i.natAbs < 1024; omega) (Nat.pow_le_pow_right (by omega) (by omega))
    have notup : ∀ (H' : Hp) (v : V), (∀ t ys, v = .ref t → H' t ≠ some (.tup ys)) → (at_ = 4 → ¬ ArcV H' r z n v) ∧ (at_ ≠ 4 → ¬ PairV H' z n v) := fun H' v h => ⟨fun _ ⟨t, i, l, x, j, e, ht, _⟩ => h t _ e ht, fun _ ⟨t, i, x, e, ht, _⟩ => h t _ e ht⟩
    have len : ∀ (H' : Hp) (t : Addr) (ys : List V), H' t = some (.tup ys) → ys.length ≠ 4 → ys.length ≠ 2 → (at_ = 4 → ¬ ArcV H' r z n (.ref t)) ∧ (at_ ≠ 4 → ¬ PairV H' z n (.ref t)) := fun H' t ys ht h4 h2 => ⟨fun _ ⟨t', i, l, x, j, e, ht', _⟩ => (by cases e; rw [ht] at ht'; cases ht'; exact h4 rfl), fun _ ⟨t', i, x, e, ht', _⟩ => (by cases e; rw [ht] at ht'; cases ht'; exact h2 rfl)⟩
    by_cases h4 : at_ = 4
    · refine ⟨_, rfl, _, rfl, _, rfl, a, ca, p, at_, r, z, n, xs, rfl, S, pa, hp, ar, az, n0, n64, fun _ t e H1 g B1 S1 nt ta tc ht => ?_, fun h => absurd h4 h⟩
      have ht : H1 t = some (.tup [.int e.1, .str e.2.1, .str e.2.2.1, .int e.2.2.2]) := ht
      obtain ⟨e0, e1, e2, e3, e4, e5, e6, e7, e8, e9⟩ := g
      have atoms : ∀ v ∈ ([.int e.1, .str e.2.1, .str e.2.2.1, .int e.2.2.2] : List V), ∀ c m Hx, Deep c m Hx v := List.forall_mem_cons.mpr ⟨fun _ _ _ => deep_int (smI _ e0 e1), List.forall_mem_cons.mpr ⟨fun _ _ _ => deep_str (by omega), List.forall_mem_cons.mpr ⟨fun _ _ _ => deep_str (by omega), List.forall_mem_cons.mpr ⟨fun _ _ _ => deep_int (smI _ e7 e8), fun x m => absurd m List.not_mem_nil⟩⟩⟩⟩
      have hp1 := B1 _ _ pa hp
      refine ⟨_, rfl, a, ca, 12, rfl, S1, by decide, fun d H2 d0 d12 B2 S2 => ?_⟩
      have ht2 := B2 _ _ ta ht
      have hp2 := B2 _ _ pa hp1
      have B12 := B1.trans B2
      refine ⟨_, rfl, _, _, rfl, rfl, _, rfl, ite2 (fun hd => ?_) (fun _ => ?_)⟩
      · obtain ⟨j, rfl⟩ := Int.eq_ofNat_of_zero_le d0
        have j6 : j < 6 := by
          have := of_decide_eq_true hd
          omega
        refine ⟨_, rfl, t, _, rfl, .inr (.inl (.inl ht2)), fun q1 nq1 => ?_⟩
        have kq1 := same_new (o := .lst [.int e.1, .str e.2.1, .str e.2.2.1, .int e.2.2.2]) nq1
        have hq1 : (upd H2 q1 (.lst [.int e.1, .str e.2.1, .str e.2.2.1, .int e.2.2.2])) q1 = some (.lst [.int e.1, .str e.2.1, .str e.2.2.1, .int e.2.2.2]) := upd_same
        have R1 := S2.new (o := .lst [.int e.1, .str e.2.1, .str e.2.2.1, .int e.2.2.2]) nq1
        have aq1 := (S2.ne nq1).1
        have ht2 := kq1 _ _ ht2
        have hp2 := kq1 _ _ hp2
        have fq1 : ∀ c, H c ≠ none → q1 ≠ c := fun c hc e => hc (by rw [← e]; exact (B12.trans (But.same (Same.refl H2))).free nq1 aq1)
        generalize upd H2 q1 (.lst [.int e.1, .str e.2.1, .str e.2.2.1, .int e.2.2.2]) = X1 at kq1 hq1 R1 ht2 hp2 ⊢
        refine ⟨_, rfl, _, rfl, _, rfl, t, _, rfl, .inl (.inl ht2), fun z => absurd z.2 (by show ¬ HT.sIx 4 4 (some (-1)) = 4; decide), fun q2 nq2 => ?_⟩
        have kq2 := same_new (o := .tup (cutV [.int e.1, .str e.2.1, .str e.2.2.1, .int e.2.2.2] none (some (-1)))) nq2
        have hq2 : (upd X1 q2 (.tup (cutV [.int e.1, .str e.2.1, .str e.2.2.1, .int e.2.2.2] none (some (-1))))) q2 = some (.tup [.int e.1, .str e.2.1, .str e.2.2.1]) := upd_same
        have R2 := R1.new (o := .tup (cutV [.int e.1, .str e.2.1, .str e.2.2.1, .int e.2.2.2] none (some (-1)))) nq2
        have aq2 := (R1.ne nq2).1
        have ht2 := kq2 _ _ ht2
        have hp2 := kq2 _ _ hp2
        have hq1 := kq2 _ _ hq1
        have fq2 : ∀ c, H c ≠ none → q2 ≠ c := fun c hc e => hc (by rw [← e]; exact (B12.trans (But.same kq1)).free nq2 aq2)
        generalize upd X1 q2 (.tup (cutV [.int e.1, .str e.2.1, .str e.2.2.1, .int e.2.2.2] none (some (-1)))) = X2 at kq2 hq2 R2 ht2 hp2 hq1 ⊢
        refine ⟨_, rfl, _, rfl, _, rfl, _, _, _, _, rfl, rfl, .inl (.inl ht2), rfl, by show 1 ≤ sizeLine; decide, fun q3 nq3 => ?_⟩
        have kq3 := same_new (o := .tup [.int e.2.2.2]) nq3
        have hq3 : (upd X2 q3 (.tup [.int e.2.2.2])) q3 = some (.tup [.int e.2.2.2]) := upd_same
        have R3 := R2.new (o := .tup [.int e.2.2.2]) nq3
        have aq3 := (R2.ne nq3).1
        have ht2 := kq3 _ _ ht2
        have hp2 := kq3 _ _ hp2
        have hq1 := kq3 _ _ hq1
        have hq2 := kq3 _ _ hq2
        have fq3 : ∀ c, H c ≠ none → q3 ≠ c := fun c hc e => hc (by rw [← e]; exact (B12.trans (But.same (kq1.trans kq2))).free nq3 aq3)
        generalize upd X2 q3 (.tup [.int e.2.2.2]) = X3 at kq3 hq3 R3 ht2 hp2 hq1 hq2 ⊢
        refine ⟨t, q3, _, _, rfl, rfl, .inl (.inl ht2), .inl (.inl hq3), (fun z => (by cases z)), by show 4 + 1 ≤ sizeLine; decide, (fun z => (by cases z)), fun _ => fun q4 nq4 => ?_⟩
        have kq4 := same_new (o := .tup ([.int e.1, .str e.2.1, .str e.2.2.1, .int e.2.2.2] ++ [.int e.2.2.2])) nq4
        have hq4 : (upd X3 q4 (.tup ([.int e.1, .str e.2.1, .str e.2.2.1, .int e.2.2.2] ++ [.int e.2.2.2]))) q4 = some (.tup [.int e.1, .str e.2.1, .str e.2.2.1, .int e.2.2.2, .int e.2.2.2]) := upd_same
        have R4 := R3.new (o := .tup ([.int e.1, .str e.2.1, .str e.2.2.1, .int e.2.2.2] ++ [.int e.2.2.2])) nq4
        have aq4 := (R3.ne nq4).1
        have ht2 := kq4 _ _ ht2
        have hp2 := kq4 _ _ hp2
        have hq1 := kq4 _ _ hq1
        have hq2 := kq4 _ _ hq2
        have fq4 : ∀ c, H c ≠ none → q4 ≠ c := fun c hc e => hc (by rw [← e]; exact (B12.trans (But.same ((kq1.trans kq2).trans kq3))).free nq4 aq4)
        generalize upd X3 q4 (.tup ([.int e.1, .str e.2.1, .str e.2.2.1, .int e.2.2.2] ++ [.int e.2.2.2])) = X4 at kq4 hq4 R4 ht2 hp2 hq1 hq2 ⊢
        refine ⟨by show 0 ≤ sizeLine; decide, fun q5 nq5 => ?_⟩
        have kq5 := same_new (o := .tup []) nq5
        have hq5 : (upd X4 q5 (.tup [])) q5 = some (.tup []) := upd_same
        have R5 := R4.new (o := .tup []) nq5
        have aq5 := (R4.ne nq5).1
        have hp2 := kq5 _ _ hp2
        have hq1 := kq5 _ _ hq1
        have hq2 := kq5 _ _ hq2
        have hq4 := kq5 _ _ hq4
        have fq5 : ∀ c, H c ≠ none → q5 ≠ c := fun c hc e => hc (by rw [← e]; exact (B12.trans (But.same (((kq1.trans kq2).trans kq3).trans kq4))).free nq5 aq5)
        generalize upd X4 q5 (.tup []) = X5 at kq5 hq5 R5 hp2 hq1 hq2 hq4 ⊢
        refine ⟨_, rfl, _, _, _, _, rfl, rfl, .inl (.inl hp2), hx1, by show 6 ≤ sizeLine; decide, fun q6 nq6 => ?_⟩
        have kq6 := same_new (o := .lst [.ref q1, .ref q2, .ref q4, .ref q5, .non, .str z]) nq6
        have hq6 : (upd X5 q6 (.lst [.ref q1, .ref q2, .ref q4, .ref q5, .non, .str z])) q6 = some (.lst [.ref q1, .ref q2, .ref q4, .ref q5, .non, .str z]) := upd_same
        have R6 := R5.new (o := .lst [.ref q1, .ref q2, .ref q4, .ref q5, .non, .str z]) nq6
        have aq6 := (R5.ne nq6).1
        have hq1 := kq6 _ _ hq1
        have hq2 := kq6 _ _ hq2
        have hq4 := kq6 _ _ hq4
        have hq5 := kq6 _ _ hq5
        have fq6 : ∀ c, H c ≠ none → q6 ≠ c := fun c hc e => hc (by rw [← e]; exact (B12.trans (But.same ((((kq1.trans kq2).trans kq3).trans kq4).trans kq5))).free nq6 aq6)
        generalize upd X5 q6 (.lst [.ref q1, .ref q2, .ref q4, .ref q5, .non, .str z]) = X6 at kq6 hq6 R6 hq1 hq2 hq4 hq5 ⊢
        have all : ∀ v ∈ ([.ref q1, .ref q2, .ref q4, .ref q5, .non, .str z] : List V), ((at_ = 4 → ¬ ArcV X6 r z n v) ∧ (at_ ≠ 4 → ¬ PairV X6 z n v)) ∧ ∀ c, H c ≠ none → Deep c 2 X6 v := by
          refine List.forall_mem_cons.mpr ⟨⟨notup _ _ fun t' ys e h => (by cases e; rw [hq1] at h; cases h), fun c hc => deep_lst (fq1 c hc) hq1 (by show 4 ≤ 1000000; decide) fun x m => atoms x m _ _ _⟩, List.forall_mem_cons.mpr ⟨⟨len _ _ _ hq2 (by show 3 ≠ 4; decide) (by show 3 ≠ 2; decide), fun c hc => deep_tup (fq2 c hc) hq2 (by show 3 ≤ 1000000; decide) fun x m => atoms x (List.mem_of_mem_take (show x ∈ ([.int e.1, .str e.2.1, .str e.2.2.1, .int e.2.2.2] : List V).take 3 from m)) _ _ _⟩, List.forall_mem_cons.mpr ⟨⟨len _ _ _ hq4 (by show 5 ≠ 4; decide) (by show 5 ≠ 2; decide), fun c hc => deep_tup (fq4 c hc) hq4 (by show 5 ≤ 1000000; decide) fun x m => atoms x ((List.mem_append.mp (show x ∈ ([.int e.1, .str e.2.1, .str e.2.2.1, .int e.2.2.2] ++ [.int e.2.2.2] : List V) from m)).elim id fun m => (by rw [List.mem_singleton.mp m]; exact List.mem_of_getElem? (i := 3) rfl)) _ _ _⟩, ?_⟩⟩⟩
          refine List.forall_mem_cons.mpr ⟨⟨len _ _ _ hq5 (by show 0 ≠ 4; decide) (by show 0 ≠ 2; decide), fun c hc => deep_tup (fq5 c hc) hq5 (by show 0 ≤ 1000000; decide) fun x m => absurd m List.not_mem_nil⟩, List.forall_mem_cons.mpr ⟨⟨notup _ _ fun t' ys e h => (by cases e), fun _ _ => deep_non⟩, List.forall_mem_cons.mpr ⟨⟨notup _ _ fun t' ys e h => (by cases e), fun _ _ => deep_str (by have := az.len4; omega)⟩, fun x m => absurd m List.not_mem_nil⟩⟩⟩
        have hj : j < ([.ref q1, .ref q2, .ref q4, .ref q5, .non, .str z] : List V).length := j6
        obtain ⟨⟨o1, o2⟩, o3⟩ := all _ (List.getElem_mem hj)
        exact ⟨_, rfl, _, _, _, _, rfl, rfl, .inl (.inl hq6), atI_nat (List.getElem?_eq_getElem hj), q _ _ o1 o2 o3 (B12.trans (But.same (((((kq1.trans kq2).trans kq3).trans kq4).trans kq5).trans kq6))) R6⟩
      refine ⟨_, rfl, t, _, rfl, .inr (.inl (.inl ht2)), fun l nl => ?_⟩
      have kl := same_new (o := .lst [.int e.1, .str e.2.1, .str e.2.2.1, .int e.2.2.2]) nl
      have hl : (upd H2 l (.lst [.int e.1, .str e.2.1, .str e.2.2.1, .int e.2.2.2])) l = some (.lst [.int e.1, .str e.2.1, .str e.2.2.1, .int e.2.2.2]) := upd_same
      have S3 := S2.new (o := .lst [.int e.1, .str e.2.1, .str e.2.2.1, .int e.2.2.2]) nl
      have xl := S2.ne nl
      have hp3 := kl _ _ hp2
      have nlH := B12.free nl xl.1
      generalize upd H2 l (.lst [.int e.1, .str e.2.1, .str e.2.2.1, .int e.2.2.2]) = H3 at kl hl S3 hp3 ⊢
      have B3 := B12.trans (But.same kl)
      refine ⟨_, rfl, _, rfl, l, _, rfl, .inl (.inl (.inl hl)), a, ca, 4, rfl, S3, by decide, fun d' H4 d0' d1' B4 S4 => ?_⟩
      have hl4 := B4 _ _ xl.1 hl
      have hp4 := B4 _ _ pa hp3
      have B4 := B3.trans B4
      have old4 : ∀ c, H c ≠ none → H4 c ≠ none := fun c hc e => (if ca' : c = a then S4.some.1 (by rw [← ca']; exact e) else hc (B4.free e ca'))
      have pl : p ≠ l := fun e => by rw [e] at hp; rw [nlH] at hp; cases hp
      refine ⟨fun σ' H' => ∃ (j : Nat) (v : V), j < 4 ∧ σ' = [some (.ref a), some (.ref p), some (.int at_), some (.ref t), some (.int d), some (.ref l), some (.int (j : Nat))] ∧ But a H H' ∧ Sto H' a ca ∧ H' l = some (.lst (([.int e.1, .str e.2.1, .str e.2.2.1, .int e.2.2.2] : List V).set j v)) ∧ (∀ c, H c ≠ none → Deep c 1 H' v) ∧ ((j = 0 ∨ j = 3) → inR v 0 (n - 1) = false) ∧ (j = 1 → ¬ ∃ x, v = .str x ∧ x.length = 1 ∧ Over r x) ∧ (j = 2 → ¬ ∃ x, v = .str x ∧ Over z x ∧ x.length ≤ 400), ?_, ?_⟩
      · obtain ⟨j, rfl⟩ := Int.eq_ofNat_of_zero_le d0'
        have jL : j < 4 := by omega
        have ixn : ∀ j : Nat, j < 4 → ixN 4 (j : Int) = some j := by decide
        have F : ∀ i j : Nat, i ≠ j → decide (V.int (i : Int) = V.int (j : Int)) = false := fun i j h => decide_eq_false (by intro z; injection z with z; omega)
        obtain rfl | rfl | rfl | rfl : j = 0 ∨ j = 1 ∨ j = 2 ∨ j = 3 := by omega
        · exact ⟨_, rfl, rfl, _, rfl, iteC (decide_eq_true rfl) (iteT ⟨_, rfl, _, rfl, _, _, _, _, rfl, rfl, .inl (.inl hp4), hx2, _, _, rfl, rfl, a, ca, n - 1, rfl, S4, by omega, by omega, fun v H5 bad dv B5 S5 => ⟨_, rfl, _, rfl, l, _, _, 0, rfl, rfl, B5 _ _ xl.1 hl4, ixn 0 (by decide), 0, v, by decide, rfl, But.grown (.refl H) nlH (B4.trans B5) (B5 _ _ xl.1 hl4), S5.put xl, upd_same, (fun c hc => (dv c (old4 c hc)).put (But.put (B5 _ _ xl.1 hl4)) (dv l (by rw [hl4]; exact fun e => by cases e))), fun _ => bad, fun z => absurd z (by decide), fun z => absurd z (by decide)⟩⟩)⟩
        · exact ⟨_, rfl, rfl, _, rfl, iteN (F 1 0 (by decide)) ⟨_, rfl, rfl, _, rfl, iteN (F 1 3 (by decide)) ⟨_, rfl, rfl, _, rfl, iteC (decide_eq_true rfl) ⟨_, rfl, rfl, _, rfl, iteC (decide_eq_true (by rw [h4])) ⟨_, rfl, _, rfl, _, _, _, _, rfl, rfl, .inl (.inl hp4), hx0, a, ca, r, rfl, S4, ar, fun v H5 bad dv B5 S5 => ⟨_, rfl, _, rfl, l, _, _, 1, rfl, rfl, B5 _ _ xl.1 hl4, ixn 1 (by decide), 1, v, by decide, rfl, But.grown (.refl H) nlH (B4.trans B5) (B5 _ _ xl.1 hl4), S5.put xl, upd_same, (fun c hc => (dv c (old4 c hc)).put (But.put (B5 _ _ xl.1 hl4)) (dv l (by rw [hl4]; exact fun e => by cases e))), fun z => absurd z (by decide), fun _ => bad, fun z => absurd z (by decide)⟩⟩⟩⟩⟩⟩
        · exact ⟨_, rfl, rfl, _, rfl, iteN (F 2 0 (by decide)) ⟨_, rfl, rfl, _, rfl, iteN (F 2 3 (by decide)) ⟨_, rfl, rfl, _, rfl, iteN (F 2 1 (by decide)) (iteF ⟨_, rfl, _, rfl, _, _, _, _, rfl, rfl, .inl (.inl hp4), hx1, a, ca, z, rfl, S4, az, fun v H5 bad dv B5 S5 => ⟨_, rfl, _, rfl, l, _, _, 2, rfl, rfl, B5 _ _ xl.1 hl4, ixn 2 (by decide), 2, v, by decide, rfl, But.grown (.refl H) nlH (B4.trans B5) (B5 _ _ xl.1 hl4), S5.put xl, upd_same, (fun c hc => (dv c (old4 c hc)).put (But.put (B5 _ _ xl.1 hl4)) (dv l (by rw [hl4]; exact fun e => by cases e))), fun z => absurd z (by decide), fun z => absurd z (by decide), fun _ => bad⟩⟩)⟩⟩⟩
        · exact ⟨_, rfl, rfl, _, rfl, iteN (F 3 0 (by decide)) ⟨_, rfl, rfl, _, rfl, iteC (decide_eq_true rfl) ⟨_, rfl, _, rfl, _, _, _, _, rfl, rfl, .inl (.inl hp4), hx2, _, _, rfl, rfl, a, ca, n - 1, rfl, S4, by omega, by omega, fun v H5 bad dv B5 S5 => ⟨_, rfl, _, rfl, l, _, _, 3, rfl, rfl, B5 _ _ xl.1 hl4, ixn 3 (by decide), 3, v, by decide, rfl, But.grown (.refl H) nlH (B4.trans B5) (B5 _ _ xl.1 hl4), S5.put xl, upd_same, (fun c hc => (dv c (old4 c hc)).put (But.put (B5 _ _ xl.1 hl4)) (dv l (by rw [hl4]; exact fun e => by cases e))), fun _ => bad, fun z => absurd z (by decide), fun z => absurd z (by decide)⟩⟩⟩⟩
      · rintro σ' H5 ⟨j, v, jL, rfl, B5, S5, hl5, da, b0, b1, b2⟩
        refine ⟨_, rfl, l, _, rfl, .inl ⟨.inl (.inl hl5), fun t3 nt3 => ?_⟩⟩
        have k6 := same_new (o := .tup (([.int e.1, .str e.2.1, .str e.2.2.1, .int e.2.2.2] : List V).set j v)) nt3
        have h6 : (upd H5 t3 (.tup (([.int e.1, .str e.2.1, .str e.2.2.1, .int e.2.2.2] : List V).set j v))) t3 = some (.tup (([.int e.1, .str e.2.1, .str e.2.2.1, .int e.2.2.2] : List V).set j v)) := upd_same
        have x6 := (S5.ne nt3).1
        refine q _ _ (fun z4 => ?_) (fun z4 => ?_) (fun cc hcc => deep_tup (fun ez => hcc (by rw [← ez]; exact B5.free nt3 x6)) h6 (by rw [List.length_set]; show 4 ≤ 1000000; decide) fun x m => ?_) (B5.trans (But.new nt3)) (S5.new nt3)
        · rintro ⟨t', i', l', x', j', et, ht', i0, i1, l1, ol, ov, lx, j0, j1⟩
          cases et
          rw [h6] at ht'
          have num : ∀ u : Int, v = .int u → 0 ≤ u → u ≤ n - 1 → (j = 0 ∨ j = 3) → False := fun u e' u0 u1 jj => by
            have := b0 jj
            rw [e'] at this
            have z' : (decide (0 ≤ u) && decide (u ≤ n - 1)) = false := this
            rw [decide_eq_true u0, decide_eq_true u1] at z'
            cases z'
          obtain rfl | rfl | rfl | rfl : j = 0 ∨ j = 1 ∨ j = 2 ∨ j = 3 := by omega
          · exact num i' (by injection ht' with ht'; injection ht' with ht'; injection ht') i0 i1 (.inl rfl)
          · exact b1 rfl ⟨l', by injection ht' with ht'; injection ht' with ht'; injection ht' with _ ht'; injection ht', l1, ol⟩
          · exact b2 rfl ⟨x', by injection ht' with ht'; injection ht' with ht'; injection ht' with _ ht'; injection ht' with _ ht'; injection ht', ov, by omega⟩
          · exact num j' (by injection ht' with ht'; injection ht' with ht'; injection ht' with _ ht'; injection ht' with _ ht'; injection ht' with _ ht'; injection ht') j0 j1 (.inr rfl)
        · exact absurd h4 z4
        · rcases List.mem_or_eq_of_mem_set m with m | m
          · exact atoms x m _ _ _
          · rw [m]; exact (da cc hcc).same k6
    · refine ⟨_, rfl, _, rfl, _, rfl, a, ca, p, at_, r, z, n, xs, rfl, S, pa, hp, ar, az, n0, n64, fun h => absurd h h4, fun _ t e H1 g l2 B1 S1 nt ta tc ht => ?_⟩
      have ht : H1 t = some (.tup [.int e.1, .str e.2]) := ht
      obtain ⟨e0, e1, e2, e3, e4⟩ := g
      have atoms : ∀ v ∈ ([.int e.1, .str e.2] : List V), ∀ c m Hx, Deep c m Hx v := List.forall_mem_cons.mpr ⟨fun _ _ _ => deep_int (smI _ e0 e1), List.forall_mem_cons.mpr ⟨fun _ _ _ => deep_str (by omega), fun x m => absurd m List.not_mem_nil⟩⟩
      have hp1 := B1 _ _ pa hp
      refine ⟨_, rfl, a, ca, 12, rfl, S1, by decide, fun d H2 d0 d12 B2 S2 => ?_⟩
      have ht2 := B2 _ _ ta ht
      have hp2 := B2 _ _ pa hp1
      have B12 := B1.trans B2
      refine ⟨_, rfl, _, _, rfl, rfl, _, rfl, ite2 (fun hd => ?_) (fun _ => ?_)⟩
      · obtain ⟨j, rfl⟩ := Int.eq_ofNat_of_zero_le d0
        have j6 : j < 6 := by
          have := of_decide_eq_true hd
          omega
        refine ⟨_, rfl, t, _, rfl, .inr (.inl (.inl ht2)), fun q1 nq1 => ?_⟩
        have kq1 := same_new (o := .lst [.int e.1, .str e.2]) nq1
        have hq1 : (upd H2 q1 (.lst [.int e.1, .str e.2])) q1 = some (.lst [.int e.1, .str e.2]) := upd_same
        have R1 := S2.new (o := .lst [.int e.1, .str e.2]) nq1
        have aq1 := (S2.ne nq1).1
        have ht2 := kq1 _ _ ht2
        have hp2 := kq1 _ _ hp2
        have fq1 : ∀ c, H c ≠ none → q1 ≠ c := fun c hc e => hc (by rw [← e]; exact (B12.trans (But.same (Same.refl H2))).free nq1 aq1)
        generalize upd H2 q1 (.lst [.int e.1, .str e.2]) = X1 at kq1 hq1 R1 ht2 hp2 ⊢
        refine ⟨_, rfl, _, rfl, _, rfl, t, _, rfl, .inl (.inl ht2), fun z => absurd z.2 (by show ¬ HT.sIx 2 2 (some (-1)) = 2; decide), fun q2 nq2 => ?_⟩
        have kq2 := same_new (o := .tup (cutV [.int e.1, .str e.2] none (some (-1)))) nq2
        have hq2 : (upd X1 q2 (.tup (cutV [.int e.1, .str e.2] none (some (-1))))) q2 = some (.tup [.int e.1]) := upd_same
        have R2 := R1.new (o := .tup (cutV [.int e.1, .str e.2] none (some (-1)))) nq2
        have aq2 := (R1.ne nq2).1
        have ht2 := kq2 _ _ ht2
        have hp2 := kq2 _ _ hp2
        have hq1 := kq2 _ _ hq1
        have fq2 : ∀ c, H c ≠ none → q2 ≠ c := fun c hc e => hc (by rw [← e]; exact (B12.trans (But.same kq1)).free nq2 aq2)
        generalize upd X1 q2 (.tup (cutV [.int e.1, .str e.2] none (some (-1)))) = X2 at kq2 hq2 R2 ht2 hp2 hq1 ⊢
        refine ⟨_, rfl, _, rfl, _, rfl, _, _, _, _, rfl, rfl, .inl (.inl ht2), rfl, by show 1 ≤ sizeLine; decide, fun q3 nq3 => ?_⟩
        have kq3 := same_new (o := .tup [.str e.2]) nq3
        have hq3 : (upd X2 q3 (.tup [.str e.2])) q3 = some (.tup [.str e.2]) := upd_same
        have R3 := R2.new (o := .tup [.str e.2]) nq3
        have aq3 := (R2.ne nq3).1
        have ht2 := kq3 _ _ ht2
        have hp2 := kq3 _ _ hp2
        have hq1 := kq3 _ _ hq1
        have hq2 := kq3 _ _ hq2
        have fq3 : ∀ c, H c ≠ none → q3 ≠ c := fun c hc e => hc (by rw [← e]; exact (B12.trans (But.same (kq1.trans kq2))).free nq3 aq3)
        generalize upd X2 q3 (.tup [.str e.2]) = X3 at kq3 hq3 R3 ht2 hp2 hq1 hq2 ⊢
        refine ⟨t, q3, _, _, rfl, rfl, .inl (.inl ht2), .inl (.inl hq3), (fun z => (by cases z)), by show 2 + 1 ≤ sizeLine; decide, (fun z => (by cases z)), fun _ => fun q4 nq4 => ?_⟩
        have kq4 := same_new (o := .tup ([.int e.1, .str e.2] ++ [.str e.2])) nq4
        have hq4 : (upd X3 q4 (.tup ([.int e.1, .str e.2] ++ [.str e.2]))) q4 = some (.tup [.int e.1, .str e.2, .str e.2]) := upd_same
        have R4 := R3.new (o := .tup ([.int e.1, .str e.2] ++ [.str e.2])) nq4
        have aq4 := (R3.ne nq4).1
        have ht2 := kq4 _ _ ht2
        have hp2 := kq4 _ _ hp2
        have hq1 := kq4 _ _ hq1
        have hq2 := kq4 _ _ hq2
        have fq4 : ∀ c, H c ≠ none → q4 ≠ c := fun c hc e => hc (by rw [← e]; exact (B12.trans (But.same ((kq1.trans kq2).trans kq3))).free nq4 aq4)
        generalize upd X3 q4 (.tup ([.int e.1, .str e.2] ++ [.str e.2])) = X4 at kq4 hq4 R4 ht2 hp2 hq1 hq2 ⊢
        refine ⟨by show 0 ≤ sizeLine; decide, fun q5 nq5 => ?_⟩
        have kq5 := same_new (o := .tup []) nq5
        have hq5 : (upd X4 q5 (.tup [])) q5 = some (.tup []) := upd_same
        have R5 := R4.new (o := .tup []) nq5
        have aq5 := (R4.ne nq5).1
        have hp2 := kq5 _ _ hp2
        have hq1 := kq5 _ _ hq1
        have hq2 := kq5 _ _ hq2
        have hq4 := kq5 _ _ hq4
        have fq5 : ∀ c, H c ≠ none → q5 ≠ c := fun c hc e => hc (by rw [← e]; exact (B12.trans (But.same (((kq1.trans kq2).trans kq3).trans kq4))).free nq5 aq5)
        generalize upd X4 q5 (.tup []) = X5 at kq5 hq5 R5 hp2 hq1 hq2 hq4 ⊢
        refine ⟨_, rfl, _, _, _, _, rfl, rfl, .inl (.inl hp2), hx1, by show 6 ≤ sizeLine; decide, fun q6 nq6 => ?_⟩
        have kq6 := same_new (o := .lst [.ref q1, .ref q2, .ref q4, .ref q5, .non, .str z]) nq6
        have hq6 : (upd X5 q6 (.lst [.ref q1, .ref q2, .ref q4, .ref q5, .non, .str z])) q6 = some (.lst [.ref q1, .ref q2, .ref q4, .ref q5, .non, .str z]) := upd_same
        have R6 := R5.new (o := .lst [.ref q1, .ref q2, .ref q4, .ref q5, .non, .str z]) nq6
        have aq6 := (R5.ne nq6).1
        have hq1 := kq6 _ _ hq1
        have hq2 := kq6 _ _ hq2
        have hq4 := kq6 _ _ hq4
        have hq5 := kq6 _ _ hq5
        have fq6 : ∀ c, H c ≠ none → q6 ≠ c := fun c hc e => hc (by rw [← e]; exact (B12.trans (But.same ((((kq1.trans kq2).trans kq3).trans kq4).trans kq5))).free nq6 aq6)
        generalize upd X5 q6 (.lst [.ref q1, .ref q2, .ref q4, .ref q5, .non, .str z]) = X6 at kq6 hq6 R6 hq1 hq2 hq4 hq5 ⊢
        have all : ∀ v ∈ ([.ref q1, .ref q2, .ref q4, .ref q5, .non, .str z] : List V), ((at_ = 4 → ¬ ArcV X6 r z n v) ∧ (at_ ≠ 4 → ¬ PairV X6 z n v)) ∧ ∀ c, H c ≠ none → Deep c 2 X6 v := by
          refine List.forall_mem_cons.mpr ⟨⟨notup _ _ fun t' ys e h => (by cases e; rw [hq1] at h; cases h), fun c hc => deep_lst (fq1 c hc) hq1 (by show 2 ≤ 1000000; decide) fun x m => atoms x m _ _ _⟩, List.forall_mem_cons.mpr ⟨⟨len _ _ _ hq2 (by show 1 ≠ 4; decide) (by show 1 ≠ 2; decide), fun c hc => deep_tup (fq2 c hc) hq2 (by show 1 ≤ 1000000; decide) fun x m => atoms x (List.mem_of_mem_take (show x ∈ ([.int e.1, .str e.2] : List V).take 1 from m)) _ _ _⟩, List.forall_mem_cons.mpr ⟨⟨len _ _ _ hq4 (by show 3 ≠ 4; decide) (by show 3 ≠ 2; decide), fun c hc => deep_tup (fq4 c hc) hq4 (by show 3 ≤ 1000000; decide) fun x m => atoms x ((List.mem_append.mp (show x ∈ ([.int e.1, .str e.2] ++ [.str e.2] : List V) from m)).elim id fun m => (by rw [List.mem_singleton.mp m]; exact List.mem_of_getElem? (i := 1) rfl)) _ _ _⟩, ?_⟩⟩⟩
          refine List.forall_mem_cons.mpr ⟨⟨len _ _ _ hq5 (by show 0 ≠ 4; decide) (by show 0 ≠ 2; decide), fun c hc => deep_tup (fq5 c hc) hq5 (by show 0 ≤ 1000000; decide) fun x m => absurd m List.not_mem_nil⟩, List.forall_mem_cons.mpr ⟨⟨notup _ _ fun t' ys e h => (by cases e), fun _ _ => deep_non⟩, List.forall_mem_cons.mpr ⟨⟨notup _ _ fun t' ys e h => (by cases e), fun _ _ => deep_str (by have := az.len4; omega)⟩, fun x m => absurd m List.not_mem_nil⟩⟩⟩
        have hj : j < ([.ref q1, .ref q2, .ref q4, .ref q5, .non, .str z] : List V).length := j6
        obtain ⟨⟨o1, o2⟩, o3⟩ := all _ (List.getElem_mem hj)
        exact ⟨_, rfl, _, _, _, _, rfl, rfl, .inl (.inl hq6), atI_nat (List.getElem?_eq_getElem hj), q _ _ o1 o2 o3 (B12.trans (But.same (((((kq1.trans kq2).trans kq3).trans kq4).trans kq5).trans kq6))) R6⟩
      refine ⟨_, rfl, t, _, rfl, .inr (.inl (.inl ht2)), fun l nl => ?_⟩
      have kl := same_new (o := .lst [.int e.1, .str e.2]) nl
      have hl : (upd H2 l (.lst [.int e.1, .str e.2])) l = some (.lst [.int e.1, .str e.2]) := upd_same
      have S3 := S2.new (o := .lst [.int e.1, .str e.2]) nl
      have xl := S2.ne nl
      have hp3 := kl _ _ hp2
      have nlH := B12.free nl xl.1
      generalize upd H2 l (.lst [.int e.1, .str e.2]) = H3 at kl hl S3 hp3 ⊢
      have B3 := B12.trans (But.same kl)
      refine ⟨_, rfl, _, rfl, l, _, rfl, .inl (.inl (.inl hl)), a, ca, 2, rfl, S3, by decide, fun d' H4 d0' d1' B4 S4 => ?_⟩
      have hl4 := B4 _ _ xl.1 hl
      have hp4 := B4 _ _ pa hp3
      have B4 := B3.trans B4
      have old4 : ∀ c, H c ≠ none → H4 c ≠ none := fun c hc e => (if ca' : c = a then S4.some.1 (by rw [← ca']; exact e) else hc (B4.free e ca'))
      have pl : p ≠ l := fun e => by rw [e] at hp; rw [nlH] at hp; cases hp
      refine ⟨fun σ' H' => ∃ (j : Nat) (v : V), j < 2 ∧ σ' = [some (.ref a), some (.ref p), some (.int at_), some (.ref t), some (.int d), some (.ref l), some (.int (j : Nat))] ∧ But a H H' ∧ Sto H' a ca ∧ H' l = some (.lst (([.int e.1, .str e.2] : List V).set j v)) ∧ (∀ c, H c ≠ none → Deep c 1 H' v) ∧ (j = 0 → inR v 0 (n - 1) = false) ∧ (j = 1 → ¬ ∃ x, v = .str x ∧ Over z x ∧ x.length ≤ 400), ?_, ?_⟩
      · obtain ⟨j, rfl⟩ := Int.eq_ofNat_of_zero_le d0'
        have jL : j < 2 := by omega
        have ixn : ∀ j : Nat, j < 2 → ixN 2 (j : Int) = some j := by decide
        have F : ∀ i j : Nat, i ≠ j → decide (V.int (i : Int) = V.int (j : Int)) = false := fun i j h => decide_eq_false (by intro z; injection z with z; omega)
        obtain rfl | rfl : j = 0 ∨ j = 1 := by omega
        · exact ⟨_, rfl, rfl, _, rfl, iteC (decide_eq_true rfl) (iteT ⟨_, rfl, _, rfl, _, _, _, _, rfl, rfl, .inl (.inl hp4), hx2, _, _, rfl, rfl, a, ca, n - 1, rfl, S4, by omega, by omega, fun v H5 bad dv B5 S5 => ⟨_, rfl, _, rfl, l, _, _, 0, rfl, rfl, B5 _ _ xl.1 hl4, ixn 0 (by decide), 0, v, by decide, rfl, But.grown (.refl H) nlH (B4.trans B5) (B5 _ _ xl.1 hl4), S5.put xl, upd_same, (fun c hc => (dv c (old4 c hc)).put (But.put (B5 _ _ xl.1 hl4)) (dv l (by rw [hl4]; exact fun e => by cases e))), fun _ => bad, fun z => absurd z (by decide)⟩⟩)⟩
        · exact ⟨_, rfl, rfl, _, rfl, iteN (F 1 0 (by decide)) ⟨_, rfl, rfl, _, rfl, iteN (F 1 3 (by decide)) ⟨_, rfl, rfl, _, rfl, iteC (decide_eq_true rfl) ⟨_, rfl, rfl, _, rfl, iteN (decide_eq_false (by intro z; injection z with z; exact h4 z)) ⟨_, rfl, _, rfl, _, _, _, _, rfl, rfl, .inl (.inl hp4), hx1, a, ca, z, rfl, S4, az, fun v H5 bad dv B5 S5 => ⟨_, rfl, _, rfl, l, _, _, 1, rfl, rfl, B5 _ _ xl.1 hl4, ixn 1 (by decide), 1, v, by decide, rfl, But.grown (.refl H) nlH (B4.trans B5) (B5 _ _ xl.1 hl4), S5.put xl, upd_same, (fun c hc => (dv c (old4 c hc)).put (But.put (B5 _ _ xl.1 hl4)) (dv l (by rw [hl4]; exact fun e => by cases e))), fun z => absurd z (by decide), fun _ => bad⟩⟩⟩⟩⟩⟩
      · rintro σ' H5 ⟨j, v, jL, rfl, B5, S5, hl5, da, b0, b1⟩
        refine ⟨_, rfl, l, _, rfl, .inl ⟨.inl (.inl hl5), fun t3 nt3 => ?_⟩⟩
        have k6 := same_new (o := .tup (([.int e.1, .str e.2] : List V).set j v)) nt3
        have h6 : (upd H5 t3 (.tup (([.int e.1, .str e.2] : List V).set j v))) t3 = some (.tup (([.int e.1, .str e.2] : List V).set j v)) := upd_same
        have x6 := (S5.ne nt3).1
        refine q _ _ (fun z4 => ?_) (fun z4 => ?_) (fun cc hcc => deep_tup (fun ez => hcc (by rw [← ez]; exact B5.free nt3 x6)) h6 (by rw [List.length_set]; show 2 ≤ 1000000; decide) fun x m => ?_) (B5.trans (But.new nt3)) (S5.new nt3)
        · exact absurd z4 h4
        · rintro ⟨t', i', x', et, ht', i0, i1, ov, lx⟩
          cases et
          rw [h6] at ht'
          obtain rfl | rfl : j = 0 ∨ j = 1 := by omega
          · have e' : v = .int i' := by injection ht' with ht'; injection ht' with ht'; injection ht'
            have := b0 rfl
            rw [e'] at this
            have z' : (decide (0 ≤ i') && decide (i' ≤ n - 1)) = false := this
            rw [decide_eq_true i0, decide_eq_true i1] at z'
            cases z'
          · have e' : v = .str x' := by injection ht' with ht'; injection ht' with ht'; injection ht' with _ ht'; injection ht'
            exact b1 rfl ⟨x', e', ov, by omega⟩
        · rcases List.mem_or_eq_of_mem_set m with m | m
          · exact atoms x m _ _ _
          · rw [m]; exact (da cc hcc).same k6

theorem ixN_nat {n k : Nat} (h : k < n) : ixN n (k : Int) = some k := by
  unfold ixN
  rw [if_pos (by omega)]
  simp
  omega
theorem erase_spot {ys : List V} {v : V} {P : Nat} (h : P ≤ ys.length) : (ys.take P ++ [v] ++ ys.drop P).eraseIdx P = ys := by
  have l : (ys.take P).length = P := by rw [List.length_take]; omega
  rw [List.eraseIdx_eq_take_drop_succ, List.append_assoc, List.take_left' l]
  have : (ys.take P ++ ([v] ++ ys.drop P)).drop (P + 1) = ys.drop P := by
    rw [← List.append_assoc, List.drop_left' (by rw [List.length_append, l]; rfl)]
  rw [this, List.take_append_drop]
def sp_mended_right [Tabl] (K : PySem.W.Frag) : Sp := fun vs H Q _ => ∃ (a ca p : Addr) (r z : Str) (n : Nat) (be : List (Int × Str)) (ae : List EnS.Arc) (ee : List (Int × Str)) (b c e : Addr) (bx ax ex : List V), vs = [.ref a, .ref p] ∧ Good H ∧ Sto H a ca ∧ PD a H p r z n be ae ee b c e bx ax ex ∧
  ∀ H' : Hp, But a H H' → Sto H' a ca → Q (.bl true) H'
theorem ok_mended_right (T : Txt K mg base) : FnOk P w K mg base CX0 (18 + 1) T.f_mended_right T.fd_mended_right ["store", "parts"] (sp_mended_right K) := by
  refine T.F_mended_right.ok sc_mended_right (fun vs H Q E h => ?_) (fun cdv A outer st H vs Q E hr h => ?_)
  · obtain ⟨a, ca, p, r, z, n, be, ae, ee, b, c, e, bx, ax, ex, rfl, _⟩ := h
    rfl
  · obtain ⟨a, ca, p, r, z, n, be, ae, ee, b, c, e, bx, ax, ex, rfl, good, S, D, q⟩ := h
    have s := st
    refine ⟨_, (pss_cons (ps_set (i := 2) sc_mended_right.nd rfl (.inl rfl) (pe_op op_add pe_int (pe_call (ok_take T) (hr.mono (by first | decide | exact Nat.le_refl _)) (by rfl) T.g_take T.F_take.kp T.b_take .nil pass0 (pa_cons (pv 0) (pa_cons pe_int pa_nil)))))
      (pss_cons (ps_setLc (i := 3) (own := [("row", 6)]) (g := gName 6) rfl sc_mended_right.nd rfl rfl (sw_true rfl rfl rfl (by decide +kernel)) (pi_list (pe_slice sl_list (pv 1) (po_some pe_int) po_none)) (blkOk_by (N := ["store", "parts", "at", "rows", "place", "mended", "row"]) (sc := defScope s_mended_right) (by decide +kernel)) (fun _ _ _ _ _ => pg_name (i := 6) sc_mended_right.nd rfl (Or.inl rfl)) (fun _ _ _ _ _ => pts_nil) (fun _ _ _ _ _ => (pe_callTy (call_list_ofK K rfl) (by rfl) T.z_list (by decide +kernel) (pa_cons (pv 6) pa_nil))))
      (pss_cons (ps_set (i := 4) sc_mended_right.nd rfl (.inl rfl) (pe_call (ok_between T) (hr.mono (by first | decide | exact Nat.le_refl _)) (by rfl) T.g_between T.F_between.kp T.b_between .nil pass0 (pa_cons (pv 0) (pa_cons pe_int (pa_cons (pe_callB (call_min2 rfl) (by rfl) T.z_min (by decide +kernel) (pa_cons (pe_callB call_len_seq (by rfl) T.z_len PySem.boot_len (pa_cons (pe_ix ix_list (pv 3) (pe_op op_sub (pv 2) pe_int) (fun _ _ => rfl)) pa_nil)) (pa_cons pe_int pa_nil))) pa_nil)))))
      (pss_cons (ps_asg (pe_slice sl_list (pe_ix ix_list (pv 3) (pe_op op_sub (pv 2) pe_int) (fun _ _ => rfl)) po_none (po_some pe_int)) (pg_sub (pv 3) (pe_op op_sub (pv 2) pe_int) set_list))
      (pss_cons (ps_set (i := 4) sc_mended_right.nd rfl (.inl rfl) (pe_callB (call_min2 rfl) (by rfl) T.z_min (by decide +kernel) (pa_cons (pv 4) (pa_cons (pe_callB call_len_seq (by rfl) T.z_len PySem.boot_len (pa_cons (pe_ix ix_list (pv 3) (pe_op op_sub (pv 2) pe_int) (fun _ _ => rfl)) pa_nil)) pa_nil))))
      (pss_cons (ps_expr (pe_bm PySem.F.plainAttrs_list PySem.F.slot_list_insert PySem.F.type_list_insert mt_insert (pe_ix ix_list (pv 3) (pe_op op_sub (pv 2) pe_int) (fun _ _ => rfl)) (pa_cons (pv 4) (pa_cons (pe_call (ok_wrong_entry T) (hr.mono (by first | decide | exact Nat.le_refl _)) (by rfl) T.g_wrong_entry T.F_wrong_entry.kp T.b_wrong_entry .nil pass0 (pa_cons (pv 0) (pa_cons (pv 1) (pa_cons (pv 2) pa_nil)))) pa_nil))))
      (pss_cons (ps_if (pt_not (pt_val (pe_call (ok_refused_right T) (hr.mono (by first | decide | exact Nat.le_refl _)) (by rfl) T.g_refused_right T.F_refused_right.kp T.b_refused_right .nil pass0 (pa_cons (pe_op op_cat (pe_slice sl_list (pv 1) po_none (po_some pe_int)) (pv 3)) (pa_cons (pe_tup (pa_cons pe_str (pa_cons (pe_ix ix_list (pe_lst (pa_cons pe_str (pa_cons pe_str (pa_cons pe_str pa_nil)))) (pe_op op_sub (pv 2) pe_int) (fun _ _ => rfl)) (pa_cons (pv 4) pa_nil)))) pa_nil))))) (pss_one (ps_ret pe_bl)) pss_nil)
      (pss_cons (ps_expr (pe_bm PySem.F.plainAttrs_list PySem.F.slot_list_pop PySem.F.type_list_pop mt_popAt (pe_ix ix_list (pv 3) (pe_op op_sub (pv 2) pe_int) (fun _ _ => rfl)) (pa_cons (pv 4) pa_nil)))
      (pss_cons (ps_set (i := 5) sc_mended_right.nd rfl (.inl rfl) (pe_op op_cat (pe_slice sl_list (pv 1) po_none (po_some pe_int)) (pv 3)))
      (pss_one (ps_ret (pe_call (ok_told_right T) (hr.mono (by first | decide | exact Nat.le_refl _)) (by rfl) T.g_told_right T.F_told_right.kp T.b_told_right .nil pass0 (pa_cons (pe_call (ok_made T) (hr.mono (by first | decide | exact Nat.le_refl _)) (by rfl) T.g_made T.F_made.kp T.b_made .nil passL (pa_cons (pv 5) pa_nil)) (pa_cons (pv 5) pa_nil)))))))))))))), ?_⟩
    clear s
    have g := D.g
    have ar := g.ar
    have az := g.az
    have n64 := g.n64
    have lr4 := ar.len4
    have lz4 := az.len4
    have llb := D.lb
    have lla := D.la
    have lle := D.le
    refine ⟨_, rfl, a, ca, 3, rfl, S, by decide, fun j H1 j0 j1 B1 S1 => ⟨_, _, rfl, rfl, ?_⟩⟩
    have D1 := D.but B1 S
    -- copies of the rows
    refine ⟨_, rfl, 3, rfl, p, _, rfl, .inl (.inl D1.hp), fun pp np => ?_⟩
    have k1 := same_new (o := .lst (cutV [.str r, .str z, .int n, .ref b, .ref c, .ref e] (some 3) none)) np
    have hpp : (upd H1 pp (.lst (cutV [.str r, .str z, .int n, .ref b, .ref c, .ref e] (some 3) none))) pp = some (.lst [.ref b, .ref c, .ref e]) := upd_same
    generalize upd H1 pp (.lst (cutV [.str r, .str z, .int n, .ref b, .ref c, .ref e] (some 3) none)) = H2 at k1 hpp ⊢
    refine ⟨pp, rfl, ⟨_, .inl (.inl hpp)⟩, fun R nR => ?_⟩
    have nR1 := k1.free nR
    have ppR : pp ≠ R := fun e => by rw [e, nR] at hpp; cases hpp
    refine lc_list (K := K) (a := pp) (xs := [.ref b, .ref c, .ref e]) (fun i H' => Same H1 H' ∧ H' pp = some (.lst [.ref b, .ref c, .ref e]) ∧ ∃ ps : List Addr, H' R = some (.lst (ps.map V.ref)) ∧ ps.length = i ∧ ps.Nodup ∧ ∀ (j : Nat) (u : Addr), ps[j]? = some u → u ≠ R ∧ H1 u = none ∧ ∃ xs, [bx, ax, ex][j]? = some xs ∧ H' u = some (.lst xs))
      ⟨k1.trans (same_new nR), by rw [upd_ne ppR]; exact hpp, [], upd_same, rfl, List.nodup_nil, fun j u e => by cases e⟩ (fun i H' _ h => .inl (.inl h.2.1)) ?_ ?_
    · rintro i v H3 hv ⟨s3, hpp3, ps, hR, lps, nd, rows⟩
      obtain ⟨ri, xs, rfl, hxs, hri, lx⟩ : ∃ ri xs, v = .ref ri ∧ [bx, ax, ex][i]? = some xs ∧ H1 ri = some (.lst xs) ∧ xs.length ≤ 400 := by
        match i, hv with
        | 0, rfl => exact ⟨b, bx, rfl, rfl, D1.hb, llb⟩
        | 1, rfl => exact ⟨c, ax, rfl, rfl, D1.hc, lla⟩
        | 2, rfl => exact ⟨e, ex, rfl, rfl, D1.he, lle⟩
      have i3 : i < 3 := (List.getElem?_eq_some_iff.mp hv).1
      refine ⟨rfl, _, rfl, ri, xs, rfl, .inl (.inl (.inl (s3 _ _ hri))), fun u nu => ?_⟩
      have k4 := same_new (o := .lst xs) nu
      have hu : (upd H3 u (.lst xs)) u = some (.lst xs) := upd_same
      have hR4 := k4 _ _ hR
      have uR : u ≠ R := fun e => by rw [e, hR] at nu; cases nu
      generalize upd H3 u (.lst xs) = H4 at k4 hu hR4 ⊢
      refine ⟨_, hR4, by rw [List.length_map, lps]; exact Nat.lt_of_lt_of_le i3 (by decide), Same.grown (.refl H1) nR1 (s3.trans k4) hR4, by rw [upd_ne ppR]; exact k4 _ _ hpp3, ps ++ [u], by rw [upd_same, List.map_append]; rfl, by rw [List.length_append, lps]; rfl, ?_, ?_⟩
      · refine List.nodup_append.mpr ⟨nd, List.pairwise_singleton .., fun x hx y hy e => ?_⟩
        rw [List.mem_singleton.mp hy] at e
        subst e
        obtain ⟨j, hj⟩ := List.getElem?_of_mem hx
        obtain ⟨_, _, zs, _, hz⟩ := rows j x hj
        rw [nu] at hz
        cases hz
      · intro j' x hj
        by_cases jl : j' < ps.length
        · rw [List.getElem?_append_left jl] at hj
          obtain ⟨xR, x0, zs, hz1, hz2⟩ := rows j' x hj
          exact ⟨xR, x0, zs, hz1, by rw [upd_ne xR]; exact k4 _ _ hz2⟩
        · have ej : j' = i := by
            have := (List.getElem?_eq_some_iff.mp hj).1
            rw [List.length_append] at this
            have : j' < ps.length + 1 := this
            omega
          subst ej
          rw [List.getElem?_append_right (by omega), lps, Nat.sub_self] at hj
          have hj : u = x := Option.some.inj hj
          subst hj
          exact ⟨uR, s3.free nu, xs, hxs, by rw [upd_ne uR]; exact hu⟩
    rintro H3 ⟨s3, _, ps, hR, lps, nd, rows⟩
    obtain ⟨l3, l4, l5, rfl⟩ := list3 (show ps.length = 3 from lps)
    have hR : H3 R = some (.lst [.ref l3, .ref l4, .ref l5]) := hR
    obtain ⟨x3, f3, zs3, e3, h3⟩ := rows 0 l3 rfl
    obtain ⟨x4, f4, zs4, e4, h4⟩ := rows 1 l4 rfl
    obtain ⟨x5, f5, zs5, e5, h5⟩ := rows 2 l5 rfl
    cases e3
    cases e4
    cases e5
    simp only [List.nodup_cons, List.mem_cons, List.not_mem_nil, or_false, not_or] at nd
    have d34 := nd.1.1
    have d35 := nd.1.2
    have d45 := nd.2.1
    clear rows lps nd
    have S3 := S1.same s3
    have D3 := D1.same s3
    have xR := S1.ne nR1
    have a3 := (S1.ne f3).1
    have a4 := (S1.ne f4).1
    have a5 := (S1.ne f5).1
    have B3 := B1.trans (But.same s3)
    have nRH := B1.free nR1 xR.1
    obtain rfl | rfl | rfl : j = 0 ∨ j = 1 ∨ j = 2 := by omega
    · refine ⟨_, rfl, _, rfl, _, rfl, _, _, rfl, rfl, _, _, _, _, rfl, rfl, .inl (.inl hR), rfl, l3, bx, rfl, .inl (.inl (.inl h3)), _, _, rfl, a, ca, 0, _, rfl, S3, ?_, fun pl H4 pl0 pl1 B4 S4 => ?_⟩
      · show (if (399 : Int) < ((bx.length : Nat) : Int) then (399 : Int) else ((bx.length : Nat) : Int)) - 0 < 1000000000
        split <;> omega
      have hR4 := B4 _ _ xR.1 hR
      have h3 := B4 _ _ a3 h3
      have h4 := B4 _ _ a4 h4
      have h5 := B4 _ _ a5 h5
      refine ⟨_, rfl, _, rfl, _, _, rfl, rfl, _, _, _, _, rfl, rfl, .inl (.inl hR4), rfl, 399, rfl, l3, bx, rfl, .inl (.inl h3), fun u nu => ?_⟩
      have c1 := same_new (o := .lst (cutV bx none (some 399))) nu
      have hu : (upd H4 u (.lst (cutV bx none (some 399)))) u = some (.lst (cutV bx none (some 399))) := upd_same
      have R5 := S4.new (o := .lst (cutV bx none (some 399))) nu
      have ec : cutV bx none (some 399) = bx.take 399 := cut_take_all (k := 399)
      rw [ec] at c1 hu R5 ⊢
      have xu := (S4.ne nu)
      have uR : u ≠ R := fun e => by rw [e, hR4] at nu; cases nu
      have h3 := c1 _ _ h3
      have h4 := c1 _ _ h4
      have h5 := c1 _ _ h5
      have ue : ∀ {x : Addr} {o : HO}, H4 x = some o → x ≠ u := fun {x o} h e => by rw [e, nu] at h; cases h
      have u1 : l4 ≠ u := ue (B4 _ _ a4 ‹H3 l4 = _›)
      have u2 : l5 ≠ u := ue (B4 _ _ a5 ‹H3 l5 = _›)
      have hR5 := c1 _ _ hR4
      have lys : (bx.take 399).length ≤ 399 := by rw [List.length_take]; exact Nat.min_le_left _ _
      have mys : ∀ y ∈ bx.take 399, y ∈ bx := fun y m => List.mem_of_mem_take m
      obtain ⟨ys, hys⟩ : ∃ ys, ys = bx.take 399 := ⟨_, rfl⟩
      rw [← hys] at c1 hu R5 lys mys h3 h4 h5 hR5 ⊢
      have B5 := (B3.trans B4).trans (But.same c1)
      have D5 := D.but B5 S
      generalize upd H4 u (.lst ys) = H5 at c1 hu R5 h3 h4 h5 hR5 B5 D5 ⊢
      have uH : H u = none := (B3.trans B4).free nu xu.1
      refine ⟨_, rfl, _, rfl, _, _, rfl, rfl, R, _, _, 0, rfl, rfl, hR5, rfl, ?_⟩
      have kR := But.put (o := .lst [.ref u, .ref l4, .ref l5]) hR5
      have hR6 : (upd H5 R (.lst [.ref u, .ref l4, .ref l5])) R = some (.lst [.ref u, .ref l4, .ref l5]) := upd_same
      have hu6 : (upd H5 R (.lst [.ref u, .ref l4, .ref l5])) u = some (.lst ys) := by rw [upd_ne uR]; exact hu
      have h3 : (upd H5 R (.lst [.ref u, .ref l4, .ref l5])) l3 = _ := (upd_ne x3).trans h3
      have h4 : (upd H5 R (.lst [.ref u, .ref l4, .ref l5])) l4 = _ := (upd_ne x4).trans h4
      have h5 : (upd H5 R (.lst [.ref u, .ref l4, .ref l5])) l5 = _ := (upd_ne x5).trans h5
      have S6 := R5.put (o := .lst [.ref u, .ref l4, .ref l5]) xR
      have B6 := But.grown (o := .lst [.ref u, .ref l4, .ref l5]) (.refl H) nRH B5 hR5
      have D6 := D.but B6 S
      show tSeq _ _ _ _ (upd H5 R (.lst [.ref u, .ref l4, .ref l5]))
      generalize upd H5 R (.lst [.ref u, .ref l4, .ref l5]) = H6 at hR6 hu6 h3 h4 h5 S6 B6 D6 kR ⊢
      refine ⟨_, rfl, _, rfl, _, rfl, _, _, rfl, rfl, _, _, _, _, rfl, rfl, .inl (.inl hR6), rfl, u, _, rfl, .inl (.inl (.inl hu6)), _, _, rfl, ?_⟩
      obtain ⟨P', hP, Pl⟩ : ∃ P' : Nat, (if ((ys.length : Nat) : Int) < pl then ((ys.length : Nat) : Int) else pl) = (P' : Int) ∧ P' ≤ ys.length := by
        split
        · exact ⟨ys.length, rfl, Nat.le_refl _⟩
        · exact ⟨pl.toNat, by omega, by omega⟩
      rw [hP]
      refine ⟨_, rfl, _, rfl, _, _, rfl, rfl, _, _, _, _, rfl, rfl, .inl (.inl hR6), rfl, .inl ⟨rfl, _, .inl (.inl hu6)⟩, _, rfl, _, rfl, _, rfl, _, rfl, a, ca, p, _, r, z, n, _, rfl, S6, D6.pa, D6.hp, ar, az, g.n0, n64, fun v H7 ok1 ok2 dv B7 S7 => ?_⟩
      have hu7 := B7 _ _ xu.1 hu6
      have hR7 := B7 _ _ xR.1 hR6
      have h3 := B7 _ _ a3 h3
      have h4 := B7 _ _ a4 h4
      have h5 := B7 _ _ a5 h5
      have u6n : H6 u ≠ none := fun z => by rw [z] at hu6; cases hu6
      have dvu := dv u u6n
      refine ⟨u, ys, v, P', rfl, rfl, hu7, Pl, Nat.lt_of_le_of_lt lys (by decide), by omega, ?_⟩
      have kU := But.put (o := .lst (ys.take P' ++ [v] ++ ys.drop P')) hu7
      have hu8 : (upd H7 u (.lst (ys.take P' ++ [v] ++ ys.drop P'))) u = some (.lst (ys.take P' ++ [v] ++ ys.drop P')) := upd_same
      have hR8 : (upd H7 u (.lst (ys.take P' ++ [v] ++ ys.drop P'))) R = _ := (upd_ne (Ne.symm uR)).trans hR7
      have h4 : (upd H7 u (.lst (ys.take P' ++ [v] ++ ys.drop P'))) l4 = _ := (upd_ne u1).trans h4
      have h5 : (upd H7 u (.lst (ys.take P' ++ [v] ++ ys.drop P'))) l5 = _ := (upd_ne u2).trans h5
      have S8 := S7.put (o := .lst (ys.take P' ++ [v] ++ ys.drop P')) xu
      have B8 := But.grown (o := .lst (ys.take P' ++ [v] ++ ys.drop P')) (.refl H) uH (B6.trans B7) hu7
      have D8 := D.but B8 S
      have dva8 := (dv a S6.some.1).put kU dvu
      have bad8 : ¬ (fun H v => PairV H z n v) (upd H7 u (.lst (ys.take P' ++ [v] ++ ys.drop P'))) v := fun o => ok2 (by decide) ((pairV_put kU 2 dvu).mp o)
      obtain ⟨sp1, sp2⟩ := spot_at (xs := ys) (tl := []) (v := v) Pl (show P' < 400 by omega)
      have spm := spot_mem (xs := ys) (tl := []) (v := v) (P := P')
      have lL : (ys.take P' ++ [v] ++ ys.drop P').length = ys.length + 1 := by
        rw [List.length_append, List.length_append, List.length_take, List.length_drop]
        show min P' ys.length + 1 + (ys.length - P') = ys.length + 1
        omega
      have eL : (ys.take P' ++ [v] ++ ys.drop P' ++ []).take 400 = ys.take P' ++ [v] ++ ys.drop P' := by rw [List.append_nil, List.take_of_length_le (by omega)]
      rw [eL] at sp1 sp2 spm
      have er := erase_spot (ys := ys) (v := v) Pl
      show tSeq _ _ _ _ (upd H7 u (.lst (ys.take P' ++ [v] ++ ys.drop P')))
      generalize ys.take P' ++ [v] ++ ys.drop P' = W at kU hu8 hR8 h4 h5 S8 B8 D8 dva8 bad8 sp1 sp2 spm lL er ⊢
      generalize upd H7 u (.lst W) = H8 at kU hu8 hR8 h4 h5 S8 B8 D8 dva8 bad8 ⊢
      -- refused
      refine ⟨_, rfl, 3, rfl, p, _, rfl, .inl (.inl D8.hp), fun w1 nw1 => ?_⟩
      have c9 := same_new (o := .lst (cutV [.str r, .str z, .int n, .ref b, .ref c, .ref e] none (some 3))) nw1
      have hw1 : (upd H8 w1 (.lst (cutV [.str r, .str z, .int n, .ref b, .ref c, .ref e] none (some 3)))) w1 = some (.lst [.str r, .str z, .int n]) := upd_same
      generalize upd H8 w1 (.lst (cutV [.str r, .str z, .int n, .ref b, .ref c, .ref e] none (some 3))) = H9 at c9 hw1 ⊢
      refine ⟨_, rfl, w1, R, _, _, rfl, rfl, hw1, c9 _ _ hR8, by show 3 + 3 ≤ sizeLine; decide, fun w2 nw2 => ?_⟩
      have c10 := same_new (o := .lst ([.str r, .str z, .int n] ++ [.ref u, .ref l4, .ref l5])) nw2
      have hw2 : (upd H9 w2 (.lst ([.str r, .str z, .int n] ++ [.ref u, .ref l4, .ref l5]))) w2 = some (.lst ([.str r, .str z, .int n] ++ [.ref u, .ref l4, .ref l5])) := upd_same
      have aw2 := ((S8.same c9).ne nw2).1
      generalize upd H9 w2 (.lst ([.str r, .str z, .int n] ++ [.ref u, .ref l4, .ref l5])) = H10 at c10 hw2 ⊢
      refine ⟨by show 3 ≤ sizeLine; decide, fun nm nnm => ?_⟩
      have c11 := same_new (o := .lst [.str (Str.ofString "begins"), .str (Str.ofString "arcs"), .str (Str.ofString "ends")]) nnm
      have hnm : (upd H10 nm (.lst [.str (Str.ofString "begins"), .str (Str.ofString "arcs"), .str (Str.ofString "ends")])) nm = some (.lst [.str (Str.ofString "begins"), .str (Str.ofString "arcs"), .str (Str.ofString "ends")]) := upd_same
      generalize upd H10 nm (.lst [.str (Str.ofString "begins"), .str (Str.ofString "arcs"), .str (Str.ofString "ends")]) = H11 at c11 hnm ⊢
      refine ⟨_, rfl, _, _, rfl, rfl, _, _, _, _, rfl, rfl, .inl (.inl hnm), rfl, _, rfl, by show 3 ≤ sizeLine; decide, fun d nd => ?_⟩
      have c12 := same_new (o := .tup [.str (Str.ofString "BadEntry"), .str (Str.ofString "begins"), .int (P' : Nat)]) nd
      have hd : (upd H11 d (.tup [.str (Str.ofString "BadEntry"), .str (Str.ofString "begins"), .int (P' : Nat)])) d = some (.tup [.str (Str.ofString "BadEntry"), .str (Str.ofString "begins"), .int (P' : Nat)]) := upd_same
      have hw2 := c12 _ _ (c11 _ _ hw2)
      have s12 := ((c9.trans c10).trans c11).trans c12
      generalize upd H11 d (.tup [.str (Str.ofString "BadEntry"), .str (Str.ofString "begins"), .int (P' : Nat)]) = H12 at c12 hd hw2 s12 ⊢
      have D12 := D8.same s12
      have hu12 := s12 _ _ hu8
      have g1 := s12 _ _ h4
      have g2 := s12 _ _ h5
      have S12 := S8.same s12
      have dv12 := dva8.same s12
      have db : ∀ x ∈ bx, Deep a 3 H12 x := D12.eb.deep (n := 2) pimg_ok S12.ntup fun e m => goodP_atoms (g.gb e m) n64
      have dc : ∀ x ∈ ax, Deep a 3 H12 x := D12.ea.deep (n := 2) aimg_ok S12.ntup fun e m => goodA_atoms (g.ga e m) n64
      have de : ∀ x ∈ ex, Deep a 3 H12 x := D12.ee'.deep (n := 2) pimg_ok S12.ntup fun e m => goodP_atoms (g.ge e m) n64
      have dW : ∀ x ∈ W, Deep a 3 H12 x := fun x m => by
        rcases spm x m with m | m | m
        · rw [m]; exact dv12.le (by decide)
        · exact db x (mys x m)
        · cases m
      have en12 := D12.eb
      have fl : FltAt K (fun H v => PairV H z n v) H12 (.ref u) (.at P') := ⟨u, W, v, rfl, .inl hu12, by omega, sp1, fun o => bad8 (o.back s12 dva8.shal), fun t y ht hy => ⟨fun lt => by
        have my := mys y (List.mem_of_getElem? (sp2 t y lt hy))
        obtain ⟨t1, ht1⟩ := List.getElem?_of_mem my
        obtain ⟨e', t', he', rfl, ht'⟩ := en12.get ht1
        exact (by obtain ⟨g1, g2, g3, g4⟩ := g.gb e' (List.mem_of_getElem? he'); exact ⟨t', e'.1, e'.2, rfl, ht', g1, g2, g3, g4⟩), (dW y (List.mem_of_getElem? hy)).shal, (dW y (List.mem_of_getElem? hy)).shal_in⟩⟩
      have mf : MFAt K H12 (.str r) (.str z) (.int n) (.ref u) (.ref l4) (.ref l5) (.begins (.at P')) := ⟨r, z, n, ⟨rfl, rfl, rfl, ar, az, g.n0, n64⟩, fl⟩
      have dr : Deep a 6 H12 (.str r) := deep_str (by omega)
      have dz : Deep a 6 H12 (.str z) := deep_str (by omega)
      have dn : Deep a 6 H12 (.int n) := deep_int (Nat.lt_of_lt_of_le (show ((n : Nat) : Int).natAbs < 2 ^ 10 by show ((n : Nat) : Int).natAbs < 1024; omega) (Nat.pow_le_pow_right (by omega) (by omega)))
      have dall : ∀ x ∈ ([.str r, .str z, .int n] ++ [.ref u, .ref l4, .ref l5] : List V), Deep a 6 H12 x := List.forall_mem_cons.mpr ⟨dr, List.forall_mem_cons.mpr ⟨dz, List.forall_mem_cons.mpr ⟨dn, List.forall_mem_cons.mpr ⟨(deep_lst (n := 3) xu.1 hu12 (by omega) dW).le (by decide), List.forall_mem_cons.mpr ⟨(deep_lst (n := 3) a4 g1 (by omega) dc).le (by decide), List.forall_mem_cons.mpr ⟨(deep_lst (n := 3) a5 g2 (by omega) de).le (by decide), fun x m => absurd m List.not_mem_nil⟩⟩⟩⟩⟩⟩
      have good12 := s12.good (B8.good good)
      refine ⟨a, w2, d, rfl, good12, ⟨_, _, _, _, _, _, .begins (.at P'), hw2, mf, hd, (deep_lst (n := 6) aw2 hw2 (by show 6 ≤ 1000000; decide) dall).le (by decide), MF.zs_deep (dr.le (by decide)) (dz.le (by decide)) (dn.le (by decide)) mf⟩, fun H13 s13 => ⟨_, rfl, iteN rfl ?_⟩⟩
      -- mended
      have s813 := s12.trans s13
      have hu13 := s813 _ _ hu8
      have hR13 := s813 _ _ hR8
      have g1 := s813 _ _ h4
      have g2 := s813 _ _ h5
      refine ⟨_, rfl, _, rfl, _, _, rfl, rfl, _, _, _, _, rfl, rfl, .inl (.inl hR13), rfl, .inl ⟨rfl, _, .inl (.inl hu13)⟩, _, rfl, u, W, P', P', v, rfl, rfl, hu13, by omega, by omega, (ixN_seq (ixN_nat (by omega))).1, sp1, ?_⟩
      rw [er]
      have B13 := B8.trans (But.same s813)
      have B14 := But.grown (o := .lst ys) (.refl H) uH B13 hu13
      have S14 := (S8.same s813).put (o := .lst ys) xu
      have D14 := D.but B14 S
      have hu14 : (upd H13 u (.lst ys)) u = some (.lst ys) := upd_same
      have hR14 : (upd H13 u (.lst ys)) R = _ := (upd_ne (Ne.symm uR)).trans hR13
      have g1 : (upd H13 u (.lst ys)) l4 = _ := (upd_ne u1).trans g1
      have g2 : (upd H13 u (.lst ys)) l5 = _ := (upd_ne u2).trans g2
      show tSeq _ _ _ _ (upd H13 u (.lst ys))
      generalize upd H13 u (.lst ys) = H14 at B14 S14 D14 hu14 hR14 g1 g2 ⊢
      refine ⟨_, rfl, 3, rfl, p, _, rfl, .inl (.inl D14.hp), fun w3 nw3 => ?_⟩
      have c15 := same_new (o := .lst (cutV [.str r, .str z, .int n, .ref b, .ref c, .ref e] none (some 3))) nw3
      have hw3 : (upd H14 w3 (.lst (cutV [.str r, .str z, .int n, .ref b, .ref c, .ref e] none (some 3)))) w3 = some (.lst [.str r, .str z, .int n]) := upd_same
      generalize upd H14 w3 (.lst (cutV [.str r, .str z, .int n, .ref b, .ref c, .ref e] none (some 3))) = H15 at c15 hw3 ⊢
      refine ⟨_, rfl, w3, R, _, _, rfl, rfl, hw3, c15 _ _ hR14, by show 3 + 3 ≤ sizeLine; decide, fun w4 nw4 => ?_⟩
      have c16 := same_new (o := .lst ([.str r, .str z, .int n] ++ [.ref u, .ref l4, .ref l5])) nw4
      have hw4 : (upd H15 w4 (.lst ([.str r, .str z, .int n] ++ [.ref u, .ref l4, .ref l5]))) w4 = some (.lst [.str r, .str z, .int n, .ref u, .ref l4, .ref l5]) := upd_same
      generalize upd H15 w4 (.lst ([.str r, .str z, .int n] ++ [.ref u, .ref l4, .ref l5])) = H16 at c16 hw4 ⊢
      have s16 := c15.trans c16
      have D16 := D14.same s16
      have hu16 := s16 _ _ hu14
      have g1 := s16 _ _ g1
      have g2 := s16 _ _ g2
      obtain ⟨fs, f1, f2⟩ := (D16.eb).sub mys
      have G' : GoodM r z n fs ae ee := ⟨ar, az, g.n0, n64, fun e' m => g.gb e' (f2 e' m), g.ga, g.ge⟩
      have B16 := B14.trans (But.same s16)
      have S16 := S14.same s16
      refine ⟨_, rfl, w4, _, _, _, _, _, _, rfl, hw4, B16.good good, .inl ⟨r, z, n, u, l4, l5, fs, ae, ee, rfl, rfl, rfl, rfl, rfl, rfl, G', ⟨ys, .inl hu16, (by omega), f1⟩, ⟨ax, .inl g1, lla, D16.ea⟩, ⟨ex, .inl g2, lle, D16.ee'⟩, fun m H17 s17 nm M Y => ?_⟩⟩
      have D17 := D16.same s17
      exact ⟨_, rfl, m, w4, r, z, n, fs, ae, ee, u, l4, l5, ys, ax, ex, rfl, G', M, s17 _ _ hw4, s17 _ _ hu16, s17 _ _ g1, s17 _ _ g2, (by omega), lla, lle, f1.same s17, D17.ea, D17.ee', fun H18 s18 => q _ (B16.trans (But.same (s17.trans s18))) (S16.same (s17.trans s18))⟩
    · refine ⟨_, rfl, _, rfl, _, rfl, _, _, rfl, rfl, _, _, _, _, rfl, rfl, .inl (.inl hR), rfl, l4, ax, rfl, .inl (.inl (.inl h4)), _, _, rfl, a, ca, 0, _, rfl, S3, ?_, fun pl H4 pl0 pl1 B4 S4 => ?_⟩
      · show (if (399 : Int) < ((ax.length : Nat) : Int) then (399 : Int) else ((ax.length : Nat) : Int)) - 0 < 1000000000
        split <;> omega
      have hR4 := B4 _ _ xR.1 hR
      have h3 := B4 _ _ a3 h3
      have h4 := B4 _ _ a4 h4
      have h5 := B4 _ _ a5 h5
      refine ⟨_, rfl, _, rfl, _, _, rfl, rfl, _, _, _, _, rfl, rfl, .inl (.inl hR4), rfl, 399, rfl, l4, ax, rfl, .inl (.inl h4), fun u nu => ?_⟩
      have c1 := same_new (o := .lst (cutV ax none (some 399))) nu
      have hu : (upd H4 u (.lst (cutV ax none (some 399)))) u = some (.lst (cutV ax none (some 399))) := upd_same
      have R5 := S4.new (o := .lst (cutV ax none (some 399))) nu
      have ec : cutV ax none (some 399) = ax.take 399 := cut_take_all (k := 399)
      rw [ec] at c1 hu R5 ⊢
      have xu := (S4.ne nu)
      have uR : u ≠ R := fun e => by rw [e, hR4] at nu; cases nu
      have h3 := c1 _ _ h3
      have h4 := c1 _ _ h4
      have h5 := c1 _ _ h5
      have ue : ∀ {x : Addr} {o : HO}, H4 x = some o → x ≠ u := fun {x o} h e => by rw [e, nu] at h; cases h
      have u0 : l3 ≠ u := ue (B4 _ _ a3 ‹H3 l3 = _›)
      have u2 : l5 ≠ u := ue (B4 _ _ a5 ‹H3 l5 = _›)
      have hR5 := c1 _ _ hR4
      have lys : (ax.take 399).length ≤ 399 := by rw [List.length_take]; exact Nat.min_le_left _ _
      have mys : ∀ y ∈ ax.take 399, y ∈ ax := fun y m => List.mem_of_mem_take m
      obtain ⟨ys, hys⟩ : ∃ ys, ys = ax.take 399 := ⟨_, rfl⟩
      rw [← hys] at c1 hu R5 lys mys h3 h4 h5 hR5 ⊢
      have B5 := (B3.trans B4).trans (But.same c1)
      have D5 := D.but B5 S
      generalize upd H4 u (.lst ys) = H5 at c1 hu R5 h3 h4 h5 hR5 B5 D5 ⊢
      have uH : H u = none := (B3.trans B4).free nu xu.1
      refine ⟨_, rfl, _, rfl, _, _, rfl, rfl, R, _, _, 1, rfl, rfl, hR5, rfl, ?_⟩
      have kR := But.put (o := .lst [.ref l3, .ref u, .ref l5]) hR5
      have hR6 : (upd H5 R (.lst [.ref l3, .ref u, .ref l5])) R = some (.lst [.ref l3, .ref u, .ref l5]) := upd_same
      have hu6 : (upd H5 R (.lst [.ref l3, .ref u, .ref l5])) u = some (.lst ys) := by rw [upd_ne uR]; exact hu
      have h3 : (upd H5 R (.lst [.ref l3, .ref u, .ref l5])) l3 = _ := (upd_ne x3).trans h3
      have h4 : (upd H5 R (.lst [.ref l3, .ref u, .ref l5])) l4 = _ := (upd_ne x4).trans h4
      have h5 : (upd H5 R (.lst [.ref l3, .ref u, .ref l5])) l5 = _ := (upd_ne x5).trans h5
      have S6 := R5.put (o := .lst [.ref l3, .ref u, .ref l5]) xR
      have B6 := But.grown (o := .lst [.ref l3, .ref u, .ref l5]) (.refl H) nRH B5 hR5
      have D6 := D.but B6 S
      show tSeq _ _ _ _ (upd H5 R (.lst [.ref l3, .ref u, .ref l5]))
      generalize upd H5 R (.lst [.ref l3, .ref u, .ref l5]) = H6 at hR6 hu6 h3 h4 h5 S6 B6 D6 kR ⊢
      refine ⟨_, rfl, _, rfl, _, rfl, _, _, rfl, rfl, _, _, _, _, rfl, rfl, .inl (.inl hR6), rfl, u, _, rfl, .inl (.inl (.inl hu6)), _, _, rfl, ?_⟩
      obtain ⟨P', hP, Pl⟩ : ∃ P' : Nat, (if ((ys.length : Nat) : Int) < pl then ((ys.length : Nat) : Int) else pl) = (P' : Int) ∧ P' ≤ ys.length := by
        split
        · exact ⟨ys.length, rfl, Nat.le_refl _⟩
        · exact ⟨pl.toNat, by omega, by omega⟩
      rw [hP]
      refine ⟨_, rfl, _, rfl, _, _, rfl, rfl, _, _, _, _, rfl, rfl, .inl (.inl hR6), rfl, .inl ⟨rfl, _, .inl (.inl hu6)⟩, _, rfl, _, rfl, _, rfl, _, rfl, a, ca, p, _, r, z, n, _, rfl, S6, D6.pa, D6.hp, ar, az, g.n0, n64, fun v H7 ok1 ok2 dv B7 S7 => ?_⟩
      have hu7 := B7 _ _ xu.1 hu6
      have hR7 := B7 _ _ xR.1 hR6
      have h3 := B7 _ _ a3 h3
      have h4 := B7 _ _ a4 h4
      have h5 := B7 _ _ a5 h5
      have u6n : H6 u ≠ none := fun z => by rw [z] at hu6; cases hu6
      have dvu := dv u u6n
      refine ⟨u, ys, v, P', rfl, rfl, hu7, Pl, Nat.lt_of_le_of_lt lys (by decide), by omega, ?_⟩
      have kU := But.put (o := .lst (ys.take P' ++ [v] ++ ys.drop P')) hu7
      have hu8 : (upd H7 u (.lst (ys.take P' ++ [v] ++ ys.drop P'))) u = some (.lst (ys.take P' ++ [v] ++ ys.drop P')) := upd_same
      have hR8 : (upd H7 u (.lst (ys.take P' ++ [v] ++ ys.drop P'))) R = _ := (upd_ne (Ne.symm uR)).trans hR7
      have h3 : (upd H7 u (.lst (ys.take P' ++ [v] ++ ys.drop P'))) l3 = _ := (upd_ne u0).trans h3
      have h5 : (upd H7 u (.lst (ys.take P' ++ [v] ++ ys.drop P'))) l5 = _ := (upd_ne u2).trans h5
      have S8 := S7.put (o := .lst (ys.take P' ++ [v] ++ ys.drop P')) xu
      have B8 := But.grown (o := .lst (ys.take P' ++ [v] ++ ys.drop P')) (.refl H) uH (B6.trans B7) hu7
      have D8 := D.but B8 S
      have dva8 := (dv a S6.some.1).put kU dvu
      have bad8 : ¬ (fun H v => ArcV H r z n v) (upd H7 u (.lst (ys.take P' ++ [v] ++ ys.drop P'))) v := fun o => ok1 (by decide) ((arcV_put kU 2 dvu).mp o)
      obtain ⟨sp1, sp2⟩ := spot_at (xs := ys) (tl := []) (v := v) Pl (show P' < 400 by omega)
      have spm := spot_mem (xs := ys) (tl := []) (v := v) (P := P')
      have lL : (ys.take P' ++ [v] ++ ys.drop P').length = ys.length + 1 := by
        rw [List.length_append, List.length_append, List.length_take, List.length_drop]
        show min P' ys.length + 1 + (ys.length - P') = ys.length + 1
        omega
      have eL : (ys.take P' ++ [v] ++ ys.drop P' ++ []).take 400 = ys.take P' ++ [v] ++ ys.drop P' := by rw [List.append_nil, List.take_of_length_le (by omega)]
      rw [eL] at sp1 sp2 spm
      have er := erase_spot (ys := ys) (v := v) Pl
      show tSeq _ _ _ _ (upd H7 u (.lst (ys.take P' ++ [v] ++ ys.drop P')))
      generalize ys.take P' ++ [v] ++ ys.drop P' = W at kU hu8 hR8 h3 h5 S8 B8 D8 dva8 bad8 sp1 sp2 spm lL er ⊢
      generalize upd H7 u (.lst W) = H8 at kU hu8 hR8 h3 h5 S8 B8 D8 dva8 bad8 ⊢
      -- refused
      refine ⟨_, rfl, 3, rfl, p, _, rfl, .inl (.inl D8.hp), fun w1 nw1 => ?_⟩
      have c9 := same_new (o := .lst (cutV [.str r, .str z, .int n, .ref b, .ref c, .ref e] none (some 3))) nw1
      have hw1 : (upd H8 w1 (.lst (cutV [.str r, .str z, .int n, .ref b, .ref c, .ref e] none (some 3)))) w1 = some (.lst [.str r, .str z, .int n]) := upd_same
      generalize upd H8 w1 (.lst (cutV [.str r, .str z, .int n, .ref b, .ref c, .ref e] none (some 3))) = H9 at c9 hw1 ⊢
      refine ⟨_, rfl, w1, R, _, _, rfl, rfl, hw1, c9 _ _ hR8, by show 3 + 3 ≤ sizeLine; decide, fun w2 nw2 => ?_⟩
      have c10 := same_new (o := .lst ([.str r, .str z, .int n] ++ [.ref l3, .ref u, .ref l5])) nw2
      have hw2 : (upd H9 w2 (.lst ([.str r, .str z, .int n] ++ [.ref l3, .ref u, .ref l5]))) w2 = some (.lst ([.str r, .str z, .int n] ++ [.ref l3, .ref u, .ref l5])) := upd_same
      have aw2 := ((S8.same c9).ne nw2).1
      generalize upd H9 w2 (.lst ([.str r, .str z, .int n] ++ [.ref l3, .ref u, .ref l5])) = H10 at c10 hw2 ⊢
      refine ⟨by show 3 ≤ sizeLine; decide, fun nm nnm => ?_⟩
      have c11 := same_new (o := .lst [.str (Str.ofString "begins"), .str (Str.ofString "arcs"), .str (Str.ofString "ends")]) nnm
      have hnm : (upd H10 nm (.lst [.str (Str.ofString "begins"), .str (Str.ofString "arcs"), .str (Str.ofString "ends")])) nm = some (.lst [.str (Str.ofString "begins"), .str (Str.ofString "arcs"), .str (Str.ofString "ends")]) := upd_same
      generalize upd H10 nm (.lst [.str (Str.ofString "begins"), .str (Str.ofString "arcs"), .str (Str.ofString "ends")]) = H11 at c11 hnm ⊢
      refine ⟨_, rfl, _, _, rfl, rfl, _, _, _, _, rfl, rfl, .inl (.inl hnm), rfl, _, rfl, by show 3 ≤ sizeLine; decide, fun d nd => ?_⟩
      have c12 := same_new (o := .tup [.str (Str.ofString "BadEntry"), .str (Str.ofString "arcs"), .int (P' : Nat)]) nd
      have hd : (upd H11 d (.tup [.str (Str.ofString "BadEntry"), .str (Str.ofString "arcs"), .int (P' : Nat)])) d = some (.tup [.str (Str.ofString "BadEntry"), .str (Str.ofString "arcs"), .int (P' : Nat)]) := upd_same
      have hw2 := c12 _ _ (c11 _ _ hw2)
      have s12 := ((c9.trans c10).trans c11).trans c12
      generalize upd H11 d (.tup [.str (Str.ofString "BadEntry"), .str (Str.ofString "arcs"), .int (P' : Nat)]) = H12 at c12 hd hw2 s12 ⊢
      have D12 := D8.same s12
      have hu12 := s12 _ _ hu8
      have g0 := s12 _ _ h3
      have g2 := s12 _ _ h5
      have S12 := S8.same s12
      have dv12 := dva8.same s12
      have db : ∀ x ∈ bx, Deep a 3 H12 x := D12.eb.deep (n := 2) pimg_ok S12.ntup fun e m => goodP_atoms (g.gb e m) n64
      have dc : ∀ x ∈ ax, Deep a 3 H12 x := D12.ea.deep (n := 2) aimg_ok S12.ntup fun e m => goodA_atoms (g.ga e m) n64
      have de : ∀ x ∈ ex, Deep a 3 H12 x := D12.ee'.deep (n := 2) pimg_ok S12.ntup fun e m => goodP_atoms (g.ge e m) n64
      have dW : ∀ x ∈ W, Deep a 3 H12 x := fun x m => by
        rcases spm x m with m | m | m
        · rw [m]; exact dv12.le (by decide)
        · exact dc x (mys x m)
        · cases m
      have en12 := D12.ea
      have fl : FltAt K (fun H v => ArcV H r z n v) H12 (.ref u) (.at P') := ⟨u, W, v, rfl, .inl hu12, by omega, sp1, fun o => bad8 (o.back s12 dva8.shal), fun t y ht hy => ⟨fun lt => by
        have my := mys y (List.mem_of_getElem? (sp2 t y lt hy))
        obtain ⟨t1, ht1⟩ := List.getElem?_of_mem my
        obtain ⟨e', t', he', rfl, ht'⟩ := en12.get ht1
        exact (by obtain ⟨g1, g2, g3, g4, g5, g6, g7, g8⟩ := g.ga e' (List.mem_of_getElem? he'); exact ⟨t', e'.1, e'.2.1, e'.2.2.1, e'.2.2.2, rfl, ht', g1, g2, g3, g4, g5, g6, g7, g8⟩), (dW y (List.mem_of_getElem? hy)).shal, (dW y (List.mem_of_getElem? hy)).shal_in⟩⟩
      have mf : MFAt K H12 (.str r) (.str z) (.int n) (.ref l3) (.ref u) (.ref l5) (.arcs (.at P')) := ⟨r, z, n, l3, be, ⟨rfl, rfl, rfl, ar, az, g.n0, n64⟩, rfl, ⟨bx, .inl g0, llb, D12.eb⟩, g.gb, fl⟩
      have dr : Deep a 6 H12 (.str r) := deep_str (by omega)
      have dz : Deep a 6 H12 (.str z) := deep_str (by omega)
      have dn : Deep a 6 H12 (.int n) := deep_int (Nat.lt_of_lt_of_le (show ((n : Nat) : Int).natAbs < 2 ^ 10 by show ((n : Nat) : Int).natAbs < 1024; omega) (Nat.pow_le_pow_right (by omega) (by omega)))
      have dall : ∀ x ∈ ([.str r, .str z, .int n] ++ [.ref l3, .ref u, .ref l5] : List V), Deep a 6 H12 x := List.forall_mem_cons.mpr ⟨dr, List.forall_mem_cons.mpr ⟨dz, List.forall_mem_cons.mpr ⟨dn, List.forall_mem_cons.mpr ⟨(deep_lst (n := 3) a3 g0 (by omega) db).le (by decide), List.forall_mem_cons.mpr ⟨(deep_lst (n := 3) xu.1 hu12 (by omega) dW).le (by decide), List.forall_mem_cons.mpr ⟨(deep_lst (n := 3) a5 g2 (by omega) de).le (by decide), fun x m => absurd m List.not_mem_nil⟩⟩⟩⟩⟩⟩
      have good12 := s12.good (B8.good good)
      refine ⟨a, w2, d, rfl, good12, ⟨_, _, _, _, _, _, .arcs (.at P'), hw2, mf, hd, (deep_lst (n := 6) aw2 hw2 (by show 6 ≤ 1000000; decide) dall).le (by decide), MF.zs_deep (dr.le (by decide)) (dz.le (by decide)) (dn.le (by decide)) mf⟩, fun H13 s13 => ⟨_, rfl, iteN rfl ?_⟩⟩
      -- mended
      have s813 := s12.trans s13
      have hu13 := s813 _ _ hu8
      have hR13 := s813 _ _ hR8
      have g0 := s813 _ _ h3
      have g2 := s813 _ _ h5
      refine ⟨_, rfl, _, rfl, _, _, rfl, rfl, _, _, _, _, rfl, rfl, .inl (.inl hR13), rfl, .inl ⟨rfl, _, .inl (.inl hu13)⟩, _, rfl, u, W, P', P', v, rfl, rfl, hu13, by omega, by omega, (ixN_seq (ixN_nat (by omega))).1, sp1, ?_⟩
      rw [er]
      have B13 := B8.trans (But.same s813)
      have B14 := But.grown (o := .lst ys) (.refl H) uH B13 hu13
      have S14 := (S8.same s813).put (o := .lst ys) xu
      have D14 := D.but B14 S
      have hu14 : (upd H13 u (.lst ys)) u = some (.lst ys) := upd_same
      have hR14 : (upd H13 u (.lst ys)) R = _ := (upd_ne (Ne.symm uR)).trans hR13
      have g0 : (upd H13 u (.lst ys)) l3 = _ := (upd_ne u0).trans g0
      have g2 : (upd H13 u (.lst ys)) l5 = _ := (upd_ne u2).trans g2
      show tSeq _ _ _ _ (upd H13 u (.lst ys))
      generalize upd H13 u (.lst ys) = H14 at B14 S14 D14 hu14 hR14 g0 g2 ⊢
      refine ⟨_, rfl, 3, rfl, p, _, rfl, .inl (.inl D14.hp), fun w3 nw3 => ?_⟩
      have c15 := same_new (o := .lst (cutV [.str r, .str z, .int n, .ref b, .ref c, .ref e] none (some 3))) nw3
      have hw3 : (upd H14 w3 (.lst (cutV [.str r, .str z, .int n, .ref b, .ref c, .ref e] none (some 3)))) w3 = some (.lst [.str r, .str z, .int n]) := upd_same
      generalize upd H14 w3 (.lst (cutV [.str r, .str z, .int n, .ref b, .ref c, .ref e] none (some 3))) = H15 at c15 hw3 ⊢
      refine ⟨_, rfl, w3, R, _, _, rfl, rfl, hw3, c15 _ _ hR14, by show 3 + 3 ≤ sizeLine; decide, fun w4 nw4 => ?_⟩
      have c16 := same_new (o := .lst ([.str r, .str z, .int n] ++ [.ref l3, .ref u, .ref l5])) nw4
      have hw4 : (upd H15 w4 (.lst ([.str r, .str z, .int n] ++ [.ref l3, .ref u, .ref l5]))) w4 = some (.lst [.str r, .str z, .int n, .ref l3, .ref u, .ref l5]) := upd_same
      generalize upd H15 w4 (.lst ([.str r, .str z, .int n] ++ [.ref l3, .ref u, .ref l5])) = H16 at c16 hw4 ⊢
      have s16 := c15.trans c16
      have D16 := D14.same s16
      have hu16 := s16 _ _ hu14
      have g0 := s16 _ _ g0
      have g2 := s16 _ _ g2
      obtain ⟨fs, f1, f2⟩ := (D16.ea).sub mys
      have G' : GoodM r z n be fs ee := ⟨ar, az, g.n0, n64, g.gb, fun e' m => g.ga e' (f2 e' m), g.ge⟩
      have B16 := B14.trans (But.same s16)
      have S16 := S14.same s16
      refine ⟨_, rfl, w4, _, _, _, _, _, _, rfl, hw4, B16.good good, .inl ⟨r, z, n, l3, u, l5, be, fs, ee, rfl, rfl, rfl, rfl, rfl, rfl, G', ⟨bx, .inl g0, llb, D16.eb⟩, ⟨ys, .inl hu16, (by omega), f1⟩, ⟨ex, .inl g2, lle, D16.ee'⟩, fun m H17 s17 nm M Y => ?_⟩⟩
      have D17 := D16.same s17
      exact ⟨_, rfl, m, w4, r, z, n, be, fs, ee, l3, u, l5, bx, ys, ex, rfl, G', M, s17 _ _ hw4, s17 _ _ g0, s17 _ _ hu16, s17 _ _ g2, llb, (by omega), lle, D17.eb, f1.same s17, D17.ee', fun H18 s18 => q _ (B16.trans (But.same (s17.trans s18))) (S16.same (s17.trans s18))⟩
    · refine ⟨_, rfl, _, rfl, _, rfl, _, _, rfl, rfl, _, _, _, _, rfl, rfl, .inl (.inl hR), rfl, l5, ex, rfl, .inl (.inl (.inl h5)), _, _, rfl, a, ca, 0, _, rfl, S3, ?_, fun pl H4 pl0 pl1 B4 S4 => ?_⟩
      · show (if (399 : Int) < ((ex.length : Nat) : Int) then (399 : Int) else ((ex.length : Nat) : Int)) - 0 < 1000000000
        split <;> omega
      have hR4 := B4 _ _ xR.1 hR
      have h3 := B4 _ _ a3 h3
      have h4 := B4 _ _ a4 h4
      have h5 := B4 _ _ a5 h5
      refine ⟨_, rfl, _, rfl, _, _, rfl, rfl, _, _, _, _, rfl, rfl, .inl (.inl hR4), rfl, 399, rfl, l5, ex, rfl, .inl (.inl h5), fun u nu => ?_⟩
      have c1 := same_new (o := .lst (cutV ex none (some 399))) nu
      have hu : (upd H4 u (.lst (cutV ex none (some 399)))) u = some (.lst (cutV ex none (some 399))) := upd_same
      have R5 := S4.new (o := .lst (cutV ex none (some 399))) nu
      have ec : cutV ex none (some 399) = ex.take 399 := cut_take_all (k := 399)
      rw [ec] at c1 hu R5 ⊢
      have xu := (S4.ne nu)
      have uR : u ≠ R := fun e => by rw [e, hR4] at nu; cases nu
      have h3 := c1 _ _ h3
      have h4 := c1 _ _ h4
      have h5 := c1 _ _ h5
      have ue : ∀ {x : Addr} {o : HO}, H4 x = some o → x ≠ u := fun {x o} h e => by rw [e, nu] at h; cases h
      have u0 : l3 ≠ u := ue (B4 _ _ a3 ‹H3 l3 = _›)
      have u1 : l4 ≠ u := ue (B4 _ _ a4 ‹H3 l4 = _›)
      have hR5 := c1 _ _ hR4
      have lys : (ex.take 399).length ≤ 399 := by rw [List.length_take]; exact Nat.min_le_left _ _
      have mys : ∀ y ∈ ex.take 399, y ∈ ex := fun y m => List.mem_of_mem_take m
      obtain ⟨ys, hys⟩ : ∃ ys, ys = ex.take 399 := ⟨_, rfl⟩
      rw [← hys] at c1 hu R5 lys mys h3 h4 h5 hR5 ⊢
      have B5 := (B3.trans B4).trans (But.same c1)
      have D5 := D.but B5 S
      generalize upd H4 u (.lst ys) = H5 at c1 hu R5 h3 h4 h5 hR5 B5 D5 ⊢
      have uH : H u = none := (B3.trans B4).free nu xu.1
      refine ⟨_, rfl, _, rfl, _, _, rfl, rfl, R, _, _, 2, rfl, rfl, hR5, rfl, ?_⟩
      have kR := But.put (o := .lst [.ref l3, .ref l4, .ref u]) hR5
      have hR6 : (upd H5 R (.lst [.ref l3, .ref l4, .ref u])) R = some (.lst [.ref l3, .ref l4, .ref u]) := upd_same
      have hu6 : (upd H5 R (.lst [.ref l3, .ref l4, .ref u])) u = some (.lst ys) := by rw [upd_ne uR]; exact hu
      have h3 : (upd H5 R (.lst [.ref l3, .ref l4, .ref u])) l3 = _ := (upd_ne x3).trans h3
      have h4 : (upd H5 R (.lst [.ref l3, .ref l4, .ref u])) l4 = _ := (upd_ne x4).trans h4
      have h5 : (upd H5 R (.lst [.ref l3, .ref l4, .ref u])) l5 = _ := (upd_ne x5).trans h5
      have S6 := R5.put (o := .lst [.ref l3, .ref l4, .ref u]) xR
      have B6 := But.grown (o := .lst [.ref l3, .ref l4, .ref u]) (.refl H) nRH B5 hR5
      have D6 := D.but B6 S
      show tSeq _ _ _ _ (upd H5 R (.lst [.ref l3, .ref l4, .ref u]))
      generalize upd H5 R (.lst [.ref l3, .ref l4, .ref u]) = H6 at hR6 hu6 h3 h4 h5 S6 B6 D6 kR ⊢
      refine ⟨_, rfl, _, rfl, _, rfl, _, _, rfl, rfl, _, _, _, _, rfl, rfl, .inl (.inl hR6), rfl, u, _, rfl, .inl (.inl (.inl hu6)), _, _, rfl, ?_⟩
      obtain ⟨P', hP, Pl⟩ : ∃ P' : Nat, (if ((ys.length : Nat) : Int) < pl then ((ys.length : Nat) : Int) else pl) = (P' : Int) ∧ P' ≤ ys.length := by
        split
        · exact ⟨ys.length, rfl, Nat.le_refl _⟩
        · exact ⟨pl.toNat, by omega, by omega⟩
      rw [hP]
      refine ⟨_, rfl, _, rfl, _, _, rfl, rfl, _, _, _, _, rfl, rfl, .inl (.inl hR6), rfl, .inl ⟨rfl, _, .inl (.inl hu6)⟩, _, rfl, _, rfl, _, rfl, _, rfl, a, ca, p, _, r, z, n, _, rfl, S6, D6.pa, D6.hp, ar, az, g.n0, n64, fun v H7 ok1 ok2 dv B7 S7 => ?_⟩
      have hu7 := B7 _ _ xu.1 hu6
      have hR7 := B7 _ _ xR.1 hR6
      have h3 := B7 _ _ a3 h3
      have h4 := B7 _ _ a4 h4
      have h5 := B7 _ _ a5 h5
      have u6n : H6 u ≠ none := fun z => by rw [z] at hu6; cases hu6
      have dvu := dv u u6n
      refine ⟨u, ys, v, P', rfl, rfl, hu7, Pl, Nat.lt_of_le_of_lt lys (by decide), by omega, ?_⟩
      have kU := But.put (o := .lst (ys.take P' ++ [v] ++ ys.drop P')) hu7
      have hu8 : (upd H7 u (.lst (ys.take P' ++ [v] ++ ys.drop P'))) u = some (.lst (ys.take P' ++ [v] ++ ys.drop P')) := upd_same
      have hR8 : (upd H7 u (.lst (ys.take P' ++ [v] ++ ys.drop P'))) R = _ := (upd_ne (Ne.symm uR)).trans hR7
      have h3 : (upd H7 u (.lst (ys.take P' ++ [v] ++ ys.drop P'))) l3 = _ := (upd_ne u0).trans h3
      have h4 : (upd H7 u (.lst (ys.take P' ++ [v] ++ ys.drop P'))) l4 = _ := (upd_ne u1).trans h4
      have S8 := S7.put (o := .lst (ys.take P' ++ [v] ++ ys.drop P')) xu
      have B8 := But.grown (o := .lst (ys.take P' ++ [v] ++ ys.drop P')) (.refl H) uH (B6.trans B7) hu7
      have D8 := D.but B8 S
      have dva8 := (dv a S6.some.1).put kU dvu
      have bad8 : ¬ (fun H v => PairV H z n v) (upd H7 u (.lst (ys.take P' ++ [v] ++ ys.drop P'))) v := fun o => ok2 (by decide) ((pairV_put kU 2 dvu).mp o)
      obtain ⟨sp1, sp2⟩ := spot_at (xs := ys) (tl := []) (v := v) Pl (show P' < 400 by omega)
      have spm := spot_mem (xs := ys) (tl := []) (v := v) (P := P')
      have lL : (ys.take P' ++ [v] ++ ys.drop P').length = ys.length + 1 := by
        rw [List.length_append, List.length_append, List.length_take, List.length_drop]
        show min P' ys.length + 1 + (ys.length - P') = ys.length + 1
        omega
      have eL : (ys.take P' ++ [v] ++ ys.drop P' ++ []).take 400 = ys.take P' ++ [v] ++ ys.drop P' := by rw [List.append_nil, List.take_of_length_le (by omega)]
      rw [eL] at sp1 sp2 spm
      have er := erase_spot (ys := ys) (v := v) Pl
      show tSeq _ _ _ _ (upd H7 u (.lst (ys.take P' ++ [v] ++ ys.drop P')))
      generalize ys.take P' ++ [v] ++ ys.drop P' = W at kU hu8 hR8 h3 h4 S8 B8 D8 dva8 bad8 sp1 sp2 spm lL er ⊢
      generalize upd H7 u (.lst W) = H8 at kU hu8 hR8 h3 h4 S8 B8 D8 dva8 bad8 ⊢
      -- refused
      refine ⟨_, rfl, 3, rfl, p, _, rfl, .inl (.inl D8.hp), fun w1 nw1 => ?_⟩
      have c9 := same_new (o := .lst (cutV [.str r, .str z, .int n, .ref b, .ref c, .ref e] none (some 3))) nw1
      have hw1 : (upd H8 w1 (.lst (cutV [.str r, .str z, .int n, .ref b, .ref c, .ref e] none (some 3)))) w1 = some (.lst [.str r, .str z, .int n]) := upd_same
      generalize upd H8 w1 (.lst (cutV [.str r, .str z, .int n, .ref b, .ref c, .ref e] none (some 3))) = H9 at c9 hw1 ⊢
      refine ⟨_, rfl, w1, R, _, _, rfl, rfl, hw1, c9 _ _ hR8, by show 3 + 3 ≤ sizeLine; decide, fun w2 nw2 => ?_⟩
      have c10 := same_new (o := .lst ([.str r, .str z, .int n] ++ [.ref l3, .ref l4, .ref u])) nw2
      have hw2 : (upd H9 w2 (.lst ([.str r, .str z, .int n] ++ [.ref l3, .ref l4, .ref u]))) w2 = some (.lst ([.str r, .str z, .int n] ++ [.ref l3, .ref l4, .ref u])) := upd_same
      have aw2 := ((S8.same c9).ne nw2).1
      generalize upd H9 w2 (.lst ([.str r, .str z, .int n] ++ [.ref l3, .ref l4, .ref u])) = H10 at c10 hw2 ⊢
      refine ⟨by show 3 ≤ sizeLine; decide, fun nm nnm => ?_⟩
      have c11 := same_new (o := .lst [.str (Str.ofString "begins"), .str (Str.ofString "arcs"), .str (Str.ofString "ends")]) nnm
      have hnm : (upd H10 nm (.lst [.str (Str.ofString "begins"), .str (Str.ofString "arcs"), .str (Str.ofString "ends")])) nm = some (.lst [.str (Str.ofString "begins"), .str (Str.ofString "arcs"), .str (Str.ofString "ends")]) := upd_same
      generalize upd H10 nm (.lst [.str (Str.ofString "begins"), .str (Str.ofString "arcs"), .str (Str.ofString "ends")]) = H11 at c11 hnm ⊢
      refine ⟨_, rfl, _, _, rfl, rfl, _, _, _, _, rfl, rfl, .inl (.inl hnm), rfl, _, rfl, by show 3 ≤ sizeLine; decide, fun d nd => ?_⟩
      have c12 := same_new (o := .tup [.str (Str.ofString "BadEntry"), .str (Str.ofString "ends"), .int (P' : Nat)]) nd
      have hd : (upd H11 d (.tup [.str (Str.ofString "BadEntry"), .str (Str.ofString "ends"), .int (P' : Nat)])) d = some (.tup [.str (Str.ofString "BadEntry"), .str (Str.ofString "ends"), .int (P' : Nat)]) := upd_same
      have hw2 := c12 _ _ (c11 _ _ hw2)
      have s12 := ((c9.trans c10).trans c11).trans c12
      generalize upd H11 d (.tup [.str (Str.ofString "BadEntry"), .str (Str.ofString "ends"), .int (P' : Nat)]) = H12 at c12 hd hw2 s12 ⊢
      have D12 := D8.same s12
      have hu12 := s12 _ _ hu8
      have g0 := s12 _ _ h3
      have g1 := s12 _ _ h4
      have S12 := S8.same s12
      have dv12 := dva8.same s12
      have db : ∀ x ∈ bx, Deep a 3 H12 x := D12.eb.deep (n := 2) pimg_ok S12.ntup fun e m => goodP_atoms (g.gb e m) n64
      have dc : ∀ x ∈ ax, Deep a 3 H12 x := D12.ea.deep (n := 2) aimg_ok S12.ntup fun e m => goodA_atoms (g.ga e m) n64
      have de : ∀ x ∈ ex, Deep a 3 H12 x := D12.ee'.deep (n := 2) pimg_ok S12.ntup fun e m => goodP_atoms (g.ge e m) n64
      have dW : ∀ x ∈ W, Deep a 3 H12 x := fun x m => by
        rcases spm x m with m | m | m
        · rw [m]; exact dv12.le (by decide)
        · exact de x (mys x m)
        · cases m
      have en12 := D12.ee'
      have fl : FltAt K (fun H v => PairV H z n v) H12 (.ref u) (.at P') := ⟨u, W, v, rfl, .inl hu12, by omega, sp1, fun o => bad8 (o.back s12 dva8.shal), fun t y ht hy => ⟨fun lt => by
        have my := mys y (List.mem_of_getElem? (sp2 t y lt hy))
        obtain ⟨t1, ht1⟩ := List.getElem?_of_mem my
        obtain ⟨e', t', he', rfl, ht'⟩ := en12.get ht1
        exact (by obtain ⟨g1, g2, g3, g4⟩ := g.ge e' (List.mem_of_getElem? he'); exact ⟨t', e'.1, e'.2, rfl, ht', g1, g2, g3, g4⟩), (dW y (List.mem_of_getElem? hy)).shal, (dW y (List.mem_of_getElem? hy)).shal_in⟩⟩
      have mf : MFAt K H12 (.str r) (.str z) (.int n) (.ref l3) (.ref l4) (.ref u) (.ends (.at P')) := ⟨r, z, n, l3, be, l4, ae, ⟨rfl, rfl, rfl, ar, az, g.n0, n64⟩, rfl, ⟨bx, .inl g0, llb, D12.eb⟩, g.gb, rfl, ⟨ax, .inl g1, lla, D12.ea⟩, g.ga, fl⟩
      have dr : Deep a 6 H12 (.str r) := deep_str (by omega)
      have dz : Deep a 6 H12 (.str z) := deep_str (by omega)
      have dn : Deep a 6 H12 (.int n) := deep_int (Nat.lt_of_lt_of_le (show ((n : Nat) : Int).natAbs < 2 ^ 10 by show ((n : Nat) : Int).natAbs < 1024; omega) (Nat.pow_le_pow_right (by omega) (by omega)))
      have dall : ∀ x ∈ ([.str r, .str z, .int n] ++ [.ref l3, .ref l4, .ref u] : List V), Deep a 6 H12 x := List.forall_mem_cons.mpr ⟨dr, List.forall_mem_cons.mpr ⟨dz, List.forall_mem_cons.mpr ⟨dn, List.forall_mem_cons.mpr ⟨(deep_lst (n := 3) a3 g0 (by omega) db).le (by decide), List.forall_mem_cons.mpr ⟨(deep_lst (n := 3) a4 g1 (by omega) dc).le (by decide), List.forall_mem_cons.mpr ⟨(deep_lst (n := 3) xu.1 hu12 (by omega) dW).le (by decide), fun x m => absurd m List.not_mem_nil⟩⟩⟩⟩⟩⟩
      have good12 := s12.good (B8.good good)
      refine ⟨a, w2, d, rfl, good12, ⟨_, _, _, _, _, _, .ends (.at P'), hw2, mf, hd, (deep_lst (n := 6) aw2 hw2 (by show 6 ≤ 1000000; decide) dall).le (by decide), MF.zs_deep (dr.le (by decide)) (dz.le (by decide)) (dn.le (by decide)) mf⟩, fun H13 s13 => ⟨_, rfl, iteN rfl ?_⟩⟩
      -- mended
      have s813 := s12.trans s13
      have hu13 := s813 _ _ hu8
      have hR13 := s813 _ _ hR8
      have g0 := s813 _ _ h3
      have g1 := s813 _ _ h4
      refine ⟨_, rfl, _, rfl, _, _, rfl, rfl, _, _, _, _, rfl, rfl, .inl (.inl hR13), rfl, .inl ⟨rfl, _, .inl (.inl hu13)⟩, _, rfl, u, W, P', P', v, rfl, rfl, hu13, by omega, by omega, (ixN_seq (ixN_nat (by omega))).1, sp1, ?_⟩
      rw [er]
      have B13 := B8.trans (But.same s813)
      have B14 := But.grown (o := .lst ys) (.refl H) uH B13 hu13
      have S14 := (S8.same s813).put (o := .lst ys) xu
      have D14 := D.but B14 S
      have hu14 : (upd H13 u (.lst ys)) u = some (.lst ys) := upd_same
      have hR14 : (upd H13 u (.lst ys)) R = _ := (upd_ne (Ne.symm uR)).trans hR13
      have g0 : (upd H13 u (.lst ys)) l3 = _ := (upd_ne u0).trans g0
      have g1 : (upd H13 u (.lst ys)) l4 = _ := (upd_ne u1).trans g1
      show tSeq _ _ _ _ (upd H13 u (.lst ys))
      generalize upd H13 u (.lst ys) = H14 at B14 S14 D14 hu14 hR14 g0 g1 ⊢
      refine ⟨_, rfl, 3, rfl, p, _, rfl, .inl (.inl D14.hp), fun w3 nw3 => ?_⟩
      have c15 := same_new (o := .lst (cutV [.str r, .str z, .int n, .ref b, .ref c, .ref e] none (some 3))) nw3
      have hw3 : (upd H14 w3 (.lst (cutV [.str r, .str z, .int n, .ref b, .ref c, .ref e] none (some 3)))) w3 = some (.lst [.str r, .str z, .int n]) := upd_same
      generalize upd H14 w3 (.lst (cutV [.str r, .str z, .int n, .ref b, .ref c, .ref e] none (some 3))) = H15 at c15 hw3 ⊢
      refine ⟨_, rfl, w3, R, _, _, rfl, rfl, hw3, c15 _ _ hR14, by show 3 + 3 ≤ sizeLine; decide, fun w4 nw4 => ?_⟩
      have c16 := same_new (o := .lst ([.str r, .str z, .int n] ++ [.ref l3, .ref l4, .ref u])) nw4
      have hw4 : (upd H15 w4 (.lst ([.str r, .str z, .int n] ++ [.ref l3, .ref l4, .ref u]))) w4 = some (.lst [.str r, .str z, .int n, .ref l3, .ref l4, .ref u]) := upd_same
      generalize upd H15 w4 (.lst ([.str r, .str z, .int n] ++ [.ref l3, .ref l4, .ref u])) = H16 at c16 hw4 ⊢
      have s16 := c15.trans c16
      have D16 := D14.same s16
      have hu16 := s16 _ _ hu14
      have g0 := s16 _ _ g0
      have g1 := s16 _ _ g1
      obtain ⟨fs, f1, f2⟩ := (D16.ee').sub mys
      have G' : GoodM r z n be ae fs := ⟨ar, az, g.n0, n64, g.gb, g.ga, fun e' m => g.ge e' (f2 e' m)⟩
      have B16 := B14.trans (But.same s16)
      have S16 := S14.same s16
      refine ⟨_, rfl, w4, _, _, _, _, _, _, rfl, hw4, B16.good good, .inl ⟨r, z, n, l3, l4, u, be, ae, fs, rfl, rfl, rfl, rfl, rfl, rfl, G', ⟨bx, .inl g0, llb, D16.eb⟩, ⟨ax, .inl g1, lla, D16.ea⟩, ⟨ys, .inl hu16, (by omega), f1⟩, fun m H17 s17 nm M Y => ?_⟩⟩
      have D17 := D16.same s17
      exact ⟨_, rfl, m, w4, r, z, n, be, ae, fs, l3, l4, u, bx, ax, ys, rfl, G', M, s17 _ _ hw4, s17 _ _ g0, s17 _ _ g1, s17 _ _ hu16, llb, lla, (by omega), D17.eb, D17.ea, f1.same s17, fun H18 s18 => q _ (B16.trans (But.same (s17.trans s18))) (S16.same (s17.trans s18))⟩

def sp_worn (_ : PySem.W.Frag) : Sp := fun vs H Q _ => ∃ (a ca l : Addr) (xs : List V), vs = [.ref a, .ref l] ∧ Sto H a ca ∧ l ≠ a ∧ H l = some (.lst xs) ∧ xs.length ≤ 1000000 ∧
  ∀ (p : Addr) (H' : Hp), p ≠ a → H p = none → (H' p = some (.lst xs) ∨ H' p = some (.tup xs)) → But a H H' → Sto H' a ca → Q (.ref p) H'
theorem ok_worn (T : Txt K mg base) : FnOk P w K mg base CX0 (2 + 1) T.f_worn T.fd_worn ["store", "row"] (sp_worn K) := by
  refine T.F_worn.ok sc_worn (fun vs H Q E h => ?_) (fun cdv A outer s H vs Q E hr h => ?_)
  · obtain ⟨a, ca, l, xs, rfl, _⟩ := h
    rfl
  · obtain ⟨a, ca, l, xs, rfl, S, ne, hl, len, q⟩ := h
    refine ⟨_, (pss_cons (ps_if (pt_cmpR op_eq (pe_call (ok_take T) (hr.mono (by first | decide | exact Nat.le_refl _)) (by rfl) T.g_take T.F_take.kp T.b_take .nil pass0 (pa_cons (pv 0) (pa_cons pe_int pa_nil))) pe_int (nomark _)) (pss_one (ps_ret (pe_callTy call_tuple_of (by rfl) T.z_tuple (by decide +kernel) (pa_cons (pv 1) pa_nil)))) pss_nil)
      (pss_one (ps_ret (pe_callTy call_list_of (by rfl) T.z_list (by decide +kernel) (pa_cons (pv 1) pa_nil))))), ?_⟩
    refine ⟨_, rfl, a, ca, 2, rfl, S, by decide, fun d H1 d0 d1 B1 S1 => ?_⟩
    have hl1 := B1 _ _ ne hl
    refine ⟨rfl, _, rfl, ite2 (fun _ => ?_) (fun _ => ?_)⟩
    · exact ⟨_, rfl, l, xs, rfl, .inl ⟨.inl (.inl hl1), fun p np => q p _ (S1.ne np).1 (B1.free np (S1.ne np).1) (.inr upd_same) (B1.trans (But.new np)) (S1.new np)⟩⟩
    · exact ⟨_, rfl, l, xs, rfl, .inl (.inl (.inl hl1)), fun p np => q p _ (S1.ne np).1 (B1.free np (S1.ne np).1) (.inl upd_same) (B1.trans (But.new np)) (S1.new np)⟩

def sp_wrong_letters [Tabl] (_ : PySem.W.Frag) : Sp := fun vs H Q _ => ∃ (a ca : Addr) (z : Str), vs = [.ref a, .str z] ∧ Sto H a ca ∧ IsAlpha z ∧ ∀ (v : V) (H' : Hp), ¬ AlphaV v → (∀ c, H c ≠ none → Deep c 1 H' v) → But a H H' → Sto H' a ca → Q v H'
theorem ok_wrong_letters (T : Txt K mg base) : FnOk P w K mg base CX0 (3 + 1) T.f_wrong_letters T.fd_wrong_letters ["store", "letters"] (sp_wrong_letters K) := by
  refine T.F_wrong_letters.ok sc_wrong_letters (fun vs H Q E h => ?_) (fun cdv A outer s H vs Q E hr h => ?_)
  · obtain ⟨a, ca, z, rfl, _⟩ := h
    rfl
  · obtain ⟨a, ca, z, rfl, S, al, q⟩ := h
    refine ⟨_, (pss_cons (ps_set (i := 2) sc_wrong_letters.nd rfl (.inl rfl) (pe_lst (pa_cons pe_str (pa_cons pe_str (pa_cons pe_str (pa_cons (pe_op op_add_str (pv 1) (pe_ix ix_str (pv 1) pe_int (fun _ _ => rfl))) (pa_cons (pe_op op_add_str (pv 1) pe_str) (pa_cons (pe_op op_add_str (pv 1) pe_str) (pa_cons (pe_op op_add_str pe_str (pv 1)) (pa_cons pe_non (pa_cons pe_int (pa_cons pe_bl pa_nil))))))))))))
      (pss_one (ps_ret (pe_call (ok_pick T) (hr.mono (by first | decide | exact Nat.le_refl _)) (by rfl) T.g_pick T.F_pick.kp T.b_pick .nil pass0 (pa_cons (pv 0) (pa_cons (pe_op op_cat (pv 2) (pe_lst (pa_cons (pe_lst (pa_cons (pv 1) pa_nil)) (pa_cons (pe_tup (pa_cons (pv 1) pa_nil)) pa_nil)))) pa_nil)))))), ?_⟩
    have hz : 0 < (cs z).length := by
      rw [cs_len]
      exact al.len1
    have c0 : (cs z)[0] ∈ cs z := List.getElem_mem hz
    have lz := al.len4
    have fit : ∀ x y : Str, x.length + y.length ≤ 1000 → x.length + y.length ≤ sizeLine := fun x y h => Nat.le_trans h (by decide)
    refine ⟨_, rfl, _, rfl, z, _, (cs z)[0], rfl, rfl, small_text al.small, atI_nat (j := 0) (List.getElem?_eq_getElem hz), _, _, rfl, rfl, fit _ _ (by show z.length + 1 ≤ 1000; omega), ?_⟩
    refine ⟨_, rfl, _, _, rfl, rfl, fit _ _ (by show z.length + 1 ≤ 1000; omega), _, rfl, _, _, rfl, rfl, fit _ _ (by show z.length + 1 ≤ 1000; omega), _, rfl, _, _, rfl, rfl, fit _ _ (by show 1 + z.length ≤ 1000; omega), ?_⟩
    refine ⟨by show 10 ≤ sizeLine; decide, fun p0 n0 => ?_⟩
    have k0 := same_new (o := .lst [V.str (Str.ofString ""), .str (Str.ofString "ba"), .str (Str.ofString "abcde"), .str (z ++ ⟨#[(cs z)[0]]⟩), .str (z ++ Str.ofString "A"), .str (z ++ Str.ofString "\n"), .str (Str.ofString " " ++ z), .non, .int 1, .bl true]) n0
    have h0 : (upd H p0 (.lst [V.str (Str.ofString ""), .str (Str.ofString "ba"), .str (Str.ofString "abcde"), .str (z ++ ⟨#[(cs z)[0]]⟩), .str (z ++ Str.ofString "A"), .str (z ++ Str.ofString "\n"), .str (Str.ofString " " ++ z), .non, .int 1, .bl true])) p0 = some (.lst [V.str (Str.ofString ""), .str (Str.ofString "ba"), .str (Str.ofString "abcde"), .str (z ++ ⟨#[(cs z)[0]]⟩), .str (z ++ Str.ofString "A"), .str (z ++ Str.ofString "\n"), .str (Str.ofString " " ++ z), .non, .int 1, .bl true]) := upd_same
    have T0 := S.new (o := .lst [V.str (Str.ofString ""), .str (Str.ofString "ba"), .str (Str.ofString "abcde"), .str (z ++ ⟨#[(cs z)[0]]⟩), .str (z ++ Str.ofString "A"), .str (z ++ Str.ofString "\n"), .str (Str.ofString " " ++ z), .non, .int 1, .bl true]) n0
    generalize upd H p0 (.lst [V.str (Str.ofString ""), .str (Str.ofString "ba"), .str (Str.ofString "abcde"), .str (z ++ ⟨#[(cs z)[0]]⟩), .str (z ++ Str.ofString "A"), .str (z ++ Str.ofString "\n"), .str (Str.ofString " " ++ z), .non, .int 1, .bl true]) = G0 at k0 h0 T0 ⊢
    refine ⟨_, rfl, _, rfl, _, rfl, by show 1 ≤ sizeLine; decide, fun p1 n1 => ?_⟩
    have k1 := same_new (o := .lst [.str z]) n1
    have h1 : (upd G0 p1 (.lst [.str z])) p1 = some (.lst [.str z]) := upd_same
    have T1 := T0.new (o := .lst [.str z]) n1
    have ne1 := (T0.ne n1).1
    generalize upd G0 p1 (.lst [.str z]) = G1 at k1 h1 T1 ⊢
    refine ⟨_, rfl, by show 1 ≤ sizeLine; decide, fun p2 n2 => ?_⟩
    have k2 := same_new (o := .tup [.str z]) n2
    have h2 : (upd G1 p2 (.tup [.str z])) p2 = some (.tup [.str z]) := upd_same
    have T2 := T1.new (o := .tup [.str z]) n2
    have ne2 := (T1.ne n2).1
    generalize upd G1 p2 (.tup [.str z]) = G2 at k2 h2 T2 ⊢
    refine ⟨by show 2 ≤ sizeLine; decide, fun p3 n3 => ?_⟩
    have k3 := same_new (o := .lst [.ref p1, .ref p2]) n3
    have h3 : (upd G2 p3 (.lst [.ref p1, .ref p2])) p3 = some (.lst [.ref p1, .ref p2]) := upd_same
    have T3 := T2.new (o := .lst [.ref p1, .ref p2]) n3
    generalize upd G2 p3 (.lst [.ref p1, .ref p2]) = G3 at k3 h3 T3 ⊢
    refine ⟨p0, p3, _, _, rfl, rfl, k3 _ _ (k2 _ _ (k1 _ _ h0)), h3, by show 10 + 2 ≤ sizeLine; decide, fun p4 n4 => ?_⟩
    have k4 := same_new (o := .lst ([V.str (Str.ofString ""), .str (Str.ofString "ba"), .str (Str.ofString "abcde"), .str (z ++ ⟨#[(cs z)[0]]⟩), .str (z ++ Str.ofString "A"), .str (z ++ Str.ofString "\n"), .str (Str.ofString " " ++ z), .non, .int 1, .bl true] ++ [.ref p1, .ref p2])) n4
    have h4 : (upd G3 p4 (.lst ([V.str (Str.ofString ""), .str (Str.ofString "ba"), .str (Str.ofString "abcde"), .str (z ++ ⟨#[(cs z)[0]]⟩), .str (z ++ Str.ofString "A"), .str (z ++ Str.ofString "\n"), .str (Str.ofString " " ++ z), .non, .int 1, .bl true] ++ [.ref p1, .ref p2]))) p4 = some (.lst ([V.str (Str.ofString ""), .str (Str.ofString "ba"), .str (Str.ofString "abcde"), .str (z ++ ⟨#[(cs z)[0]]⟩), .str (z ++ Str.ofString "A"), .str (z ++ Str.ofString "\n"), .str (Str.ofString " " ++ z), .non, .int 1, .bl true] ++ [.ref p1, .ref p2])) := upd_same
    have T4 := T3.new (o := .lst ([V.str (Str.ofString ""), .str (Str.ofString "ba"), .str (Str.ofString "abcde"), .str (z ++ ⟨#[(cs z)[0]]⟩), .str (z ++ Str.ofString "A"), .str (z ++ Str.ofString "\n"), .str (Str.ofString " " ++ z), .non, .int 1, .bl true] ++ [.ref p1, .ref p2])) n4
    have ne4 := (T3.ne n4).1
    generalize upd G3 p4 (.lst ([V.str (Str.ofString ""), .str (Str.ofString "ba"), .str (Str.ofString "abcde"), .str (z ++ ⟨#[(cs z)[0]]⟩), .str (z ++ Str.ofString "A"), .str (z ++ Str.ofString "\n"), .str (Str.ofString " " ++ z), .non, .int 1, .bl true] ++ [.ref p1, .ref p2])) = G4 at k4 h4 T4 ⊢
    have h1 := k4 _ _ (k3 _ _ (k2 _ _ h1))
    have h2 := k4 _ _ (k3 _ _ h2)
    have k := (((k0.trans k1).trans k2).trans k3).trans k4
    refine ⟨a, ca, T4, .inr ⟨p4, _, rfl, ne4, h4, by show 0 < 12; decide, by show 12 ≤ 1000000; decide, fun x H' mx B5 S5 => ?_⟩⟩
    have str : ∀ y : Str, ¬ IsAlpha y → ¬ AlphaV (.str y) := fun y h ⟨y', e, g⟩ => h (by cases e; exact g)
    have oth : ∀ y : V, (∀ t, y ≠ .str t) → ¬ AlphaV y := fun y h ⟨y', e, g⟩ => h y' e
    have low : ∀ (y : Str) (c : Nat), c ∈ cs y → c < 97 → ¬ IsAlpha y := fun y c hc l g => by
      have := g.low c hc
      omega
    have ln : ∀ y : Str, y.length ≤ 10 → ∀ c n, Deep c n G4 (.str y) := fun y h c n => deep_str (by omega)
    have all : ∀ x ∈ ([V.str (Str.ofString ""), .str (Str.ofString "ba"), .str (Str.ofString "abcde"), .str (z ++ ⟨#[(cs z)[0]]⟩), .str (z ++ Str.ofString "A"), .str (z ++ Str.ofString "\n"), .str (Str.ofString " " ++ z), .non, .int 1, .bl true] ++ [.ref p1, .ref p2] : List V), ¬ AlphaV x ∧ ∀ c, p1 ≠ c → p2 ≠ c → Deep c 1 G4 x := by
      refine List.forall_mem_cons.mpr ⟨⟨str _ fun g => (by have := g.len1; revert this; decide +kernel), fun c _ _ => ln _ (by decide +kernel) c _⟩, List.forall_mem_cons.mpr ⟨⟨str _ fun g => (by have := g.asc; revert this; decide +kernel), fun c _ _ => ln _ (by decide +kernel) c _⟩, List.forall_mem_cons.mpr ⟨⟨str _ fun g => (by have := g.len4; revert this; decide +kernel), fun c _ _ => ln _ (by decide +kernel) c _⟩, ?_⟩⟩⟩
      refine List.forall_mem_cons.mpr ⟨⟨str _ fun g => ?_, fun c _ _ => ln _ (by rw [length_app]; show z.length + 1 ≤ 10; omega) c _⟩, List.forall_mem_cons.mpr ⟨⟨str _ (low _ 65 (by rw [cs_app]; exact List.mem_append_right _ (by decide +kernel)) (by decide)), fun c _ _ => ln _ (by rw [length_app]; show z.length + 1 ≤ 10; omega) c _⟩, List.forall_mem_cons.mpr ⟨⟨str _ (low _ 10 (by rw [cs_app]; exact List.mem_append_right _ (by decide +kernel)) (by decide)), fun c _ _ => ln _ (by rw [length_app]; show z.length + 1 ≤ 10; omega) c _⟩, List.forall_mem_cons.mpr ⟨⟨str _ (low _ 32 (by rw [cs_app]; exact List.mem_append_left _ (by decide +kernel)) (by decide)), fun c _ _ => ln _ (by rw [length_app]; show 1 + z.length ≤ 10; omega) c _⟩, ?_⟩⟩⟩⟩
      · have h := g.nodup
        rw [cs_app] at h
        exact (List.nodup_append.mp h).2.2 _ c0 _ (List.mem_singleton.mpr rfl) rfl
      refine List.forall_mem_cons.mpr ⟨⟨oth _ fun t e => (by cases e), fun c c1 c2 => deep_non⟩, List.forall_mem_cons.mpr ⟨⟨oth _ fun t e => (by cases e), fun c c1 c2 => deep_int (small_pow (by decide))⟩, List.forall_mem_cons.mpr ⟨⟨oth _ fun t e => (by cases e), fun c c1 c2 => deep_bl⟩, List.forall_mem_cons.mpr ⟨⟨oth _ fun t e => (by cases e), fun c c1 c2 => deep_one (.inl h1) c1 (ln _ (by omega) c)⟩, List.forall_mem_cons.mpr ⟨⟨oth _ fun t e => (by cases e), fun c c1 c2 => deep_one (.inr h2) c2 (ln _ (by omega) c)⟩, fun x m => absurd m List.not_mem_nil⟩⟩⟩⟩⟩
    obtain ⟨o1, o2⟩ := all x mx
    have f1 := k0.free n1
    have f2 := k0.free (k1.free n2)
    exact q x H' o1 (fun c hc => (o2 c (fun e => hc (by rw [← e]; exact f1)) fun e => hc (by rw [← e]; exact f2)).put B5 (o2 a ne1 ne2)) ((But.same k).trans B5) S5

def sp_spoilt [Tabl] (K : PySem.W.Frag) : Sp := fun vs H Q _ => ∃ (a ca p : Addr) (r z : Str) (n : Nat) (be : List (Int × Str)) (ae : List EnS.Arc) (ee : List (Int × Str)) (b c e : Addr) (bx ax ex : List V), vs = [.ref a, .ref p] ∧ Sto H a ca ∧ PD a H p r z n be ae ee b c e bx ax ex ∧
  ∀ (t s d : Addr) (H' : Hp), H' t = some (.tup [.ref s, .ref d]) → SpD K a H' s d → But a H H' → Sto H' a ca → Q (.ref t) H'
theorem ok_spoilt (T : Txt K mg base) : FnOk P w K mg base CX0 (7 + 1) T.f_spoilt T.fd_spoilt ["store", "parts"] (sp_spoilt K) := by
  refine T.F_spoilt.ok sc_spoilt (fun vs H Q E h => ?_) (fun cdv A outer st H vs Q E hr h => ?_)
  · obtain ⟨a, ca, p, r, z, n, be, ae, ee, b, c, e, bx, ax, ex, rfl, _⟩ := h
    rfl
  · obtain ⟨a, ca, p, r, z, n, be, ae, ee, b, c, e, bx, ax, ex, rfl, S, D, q⟩ := h
    have s := st
    refine ⟨_, (pss_cons (ps_set (i := 2) sc_spoilt.nd rfl (.inl rfl) (pe_callTy call_list_of (by rfl) T.z_list (by decide +kernel) (pa_cons (pv 1) pa_nil)))
      (pss_cons (ps_set (i := 3) sc_spoilt.nd rfl (.inl rfl) (pe_call (ok_take T) (hr.mono (by first | decide | exact Nat.le_refl _)) (by rfl) T.g_take T.F_take.kp T.b_take .nil pass0 (pa_cons (pv 0) (pa_cons pe_int pa_nil))))
      (pss_cons (ps_set (i := 4) sc_spoilt.nd rfl (.inl rfl) (pe_ix ix_list (pe_lst (pa_cons pe_str (pa_cons pe_str (pa_cons pe_str (pa_cons pe_str (pa_cons pe_str (pa_cons pe_str pa_nil))))))) (pv 3) (fun _ _ => rfl)))
      (pss_cons (ps_set (i := 5) sc_spoilt.nd rfl (.inl rfl) (pe_call (ok_between T) (hr.mono (by first | decide | exact Nat.le_refl _)) (by rfl) T.g_between T.F_between.kp T.b_between .nil pass0 (pa_cons (pv 0) (pa_cons pe_int (pa_cons (pe_callB (call_min2 rfl) (by rfl) T.z_min (by decide +kernel) (pa_cons (pe_callB call_len_seq (by rfl) T.z_len PySem.boot_len (pa_cons (pe_ix ix_list (pv 1) (pe_callB (call_max2 rfl) (by rfl) T.z_max (by decide +kernel) (pa_cons pe_int (pa_cons (pv 3) pa_nil))) (fun _ _ => rfl)) pa_nil)) (pa_cons pe_int pa_nil))) pa_nil)))))
      (pss_cons (ps_set (i := 6) sc_spoilt.nd rfl (.inl rfl) (pe_call (ok_take T) (hr.mono (by first | decide | exact Nat.le_refl _)) (by rfl) T.g_take T.F_take.kp T.b_take .nil pass0 (pa_cons (pv 0) (pa_cons pe_int pa_nil))))
      (C8.pss_cut (ps_if (pt_cmpR op_lt (pv 3) pe_int (nomark _)) (pss_cons (ps_asg (pe_call (ok_wrong_letters T) (hr.mono (by first | decide | exact Nat.le_refl _)) (by rfl) T.g_wrong_letters T.F_wrong_letters.kp T.b_wrong_letters .nil pass0 (pa_cons (pv 0) (pa_cons (pe_ix ix_list (pv 1) (pv 3) (fun _ _ => rfl)) pa_nil))) (pg_sub (pv 2) (pv 3) set_list))
      (pss_one (ps_set (i := 7) sc_spoilt.nd rfl (.inl rfl) (pe_tup (pa_cons pe_str (pa_cons (pe_ix ix_list (pv 2) (pv 3) (fun _ _ => rfl)) pa_nil)))))) (pss_one (ps_if (pt_cmpR op_eq (pv 3) pe_int (nomark _)) (pss_cons (ps_asg (pe_call (ok_wrong_number T) (hr.mono (by first | decide | exact Nat.le_refl _)) (by rfl) T.g_wrong_number T.F_wrong_number.kp T.b_wrong_number .nil pass0 (pa_cons (pv 0) (pa_cons pe_int pa_nil))) (pg_sub (pv 2) (pv 3) set_list))
      (pss_one (ps_set (i := 7) sc_spoilt.nd rfl (.inl rfl) (pe_tup (pa_cons pe_str (pa_cons (pe_ix ix_list (pv 2) (pv 3) (fun _ _ => rfl)) pa_nil)))))) (pss_one (ps_if (pt_cmpR op_eq (pv 6) pe_int (nomark _)) (pss_cons (ps_asg (pe_call (ok_pick T) (hr.mono (by first | decide | exact Nat.le_refl _)) (by rfl) T.g_pick T.F_pick.kp T.b_pick .nil pass0 (pa_cons (pv 0) (pa_cons (pe_lst (pa_cons pe_non (pa_cons pe_bl (pa_cons pe_int (pa_cons pe_int (pa_cons pe_str (pa_cons pe_str pa_nil))))))) pa_nil))) (pg_sub (pv 2) (pv 3) set_list))
      (pss_one (ps_set (i := 7) sc_spoilt.nd rfl (.inl rfl) (pe_tup (pa_cons pe_str (pa_cons (pv 4) (pa_cons pe_non pa_nil))))))) (pss_one (ps_if (pt_cmpR op_eq (pv 6) pe_int (nomark _)) (pss_cons (ps_asg (pe_call (ok_worn T) (hr.mono (by first | decide | exact Nat.le_refl _)) (by rfl) T.g_worn T.F_worn.kp T.b_worn .nil pass0 (pa_cons (pv 0) (pa_cons (pe_slice sl_list (pe_op op_cat (pe_op op_cat (pe_lst (pa_cons (pe_call (ok_wrong_entry T) (hr.mono (by first | decide | exact Nat.le_refl _)) (by rfl) T.g_wrong_entry T.F_wrong_entry.kp T.b_wrong_entry .nil pass0 (pa_cons (pv 0) (pa_cons (pv 1) (pa_cons (pv 3) pa_nil)))) pa_nil)) (pe_ix ix_list (pv 1) (pv 3) (fun _ _ => rfl))) (pe_op op_rep (pe_lst (pa_cons (pe_ix ix_list (pv 1) pe_int (fun _ _ => rfl)) pa_nil)) pe_int)) po_none (po_some pe_int)) pa_nil))) (pg_sub (pv 2) (pv 3) set_list))
      (pss_one (ps_set (i := 7) sc_spoilt.nd rfl (.inl rfl) (pe_tup (pa_cons pe_str (pa_cons (pv 4) (pa_cons pe_int pa_nil))))))) (pss_cons (ps_set (i := 8) sc_spoilt.nd rfl (.inl rfl) (pe_op op_cat (pe_op op_cat (pe_slice sl_list (pe_ix ix_list (pv 1) (pv 3) (fun _ _ => rfl)) po_none (po_some (pv 5))) (pe_lst (pa_cons (pe_call (ok_wrong_entry T) (hr.mono (by first | decide | exact Nat.le_refl _)) (by rfl) T.g_wrong_entry T.F_wrong_entry.kp T.b_wrong_entry .nil pass0 (pa_cons (pv 0) (pa_cons (pv 1) (pa_cons (pv 3) pa_nil)))) pa_nil))) (pe_slice sl_list (pe_ix ix_list (pv 1) (pv 3) (fun _ _ => rfl)) (po_some (pv 5)) po_none)))
      (C8.pss_cut (ps_if (pt_cmpR op_eq (pe_call (ok_take T) (hr.mono (by first | decide | exact Nat.le_refl _)) (by rfl) T.g_take T.F_take.kp T.b_take .nil pass0 (pa_cons (pv 0) (pa_cons pe_int pa_nil))) pe_int (nomark _)) (pss_one (ps_expr (pe_bm PySem.F.plainAttrs_list PySem.F.slot_list_append PySem.F.type_list_append mt_append (pv 8) (pa_cons (pe_call (ok_wrong_entry T) (hr.mono (by first | decide | exact Nat.le_refl _)) (by rfl) T.g_wrong_entry T.F_wrong_entry.kp T.b_wrong_entry .nil pass0 (pa_cons (pv 0) (pa_cons (pv 1) (pa_cons (pv 3) pa_nil)))) pa_nil)))) pss_nil)
      (pss_cons (ps_asg (pe_call (ok_worn T) (hr.mono (by first | decide | exact Nat.le_refl _)) (by rfl) T.g_worn T.F_worn.kp T.b_worn .nil pass0 (pa_cons (pv 0) (pa_cons (pe_slice sl_list (pv 8) po_none (po_some pe_int)) pa_nil))) (pg_sub (pv 2) (pv 3) set_list))
      (pss_one (ps_set (i := 7) sc_spoilt.nd rfl (.inl rfl) (pe_tup (pa_cons pe_str (pa_cons (pv 4) (pa_cons (pv 5) pa_nil))))))))))))))))
      (C8.pss_cut (ps_if (PW.pt (pw_and (pt_cmpR op_lt (pv 3) pe_int (nomark _)) (pw_and1 (pt_cmpR op_eq (pe_call (ok_take T) (hr.mono (by first | decide | exact Nat.le_refl _)) (by rfl) T.g_take T.F_take.kp T.b_take .nil pass0 (pa_cons (pv 0) (pa_cons pe_int pa_nil))) pe_int (nomark _))))) (pss_one (ps_asg pe_non (pg_sub (pv 2) (pe_op op_add (pe_op op_add (pv 3) pe_int) (pe_call (ok_take T) (hr.mono (by first | decide | exact Nat.le_refl _)) (by rfl) T.g_take T.F_take.kp T.b_take .nil pass0 (pa_cons (pv 0) (pa_cons (pe_op op_sub pe_int (pv 3)) pa_nil)))) set_list))) pss_nil)
      (pss_one (ps_ret (pe_tup (pa_cons (pv 2) (pa_cons (pv 7) pa_nil)))))))))))), ?_⟩
    clear s
    have g := D.g
    have ar := g.ar
    have az := g.az
    have n64 := g.n64
    have lr4 := ar.len4
    have lz4 := az.len4
    refine ⟨_, rfl, p, _, rfl, .inl (.inl (.inl D.hp)), fun s ns => ?_⟩
    have k1 := same_new (o := .lst [.str r, .str z, .int n, .ref b, .ref c, .ref e]) ns
    have hs : (upd H s (.lst [.str r, .str z, .int n, .ref b, .ref c, .ref e])) s = some (.lst [.str r, .str z, .int n, .ref b, .ref c, .ref e]) := upd_same
    have S1 := S.new (o := .lst [.str r, .str z, .int n, .ref b, .ref c, .ref e]) ns
    have xs := S.ne ns
    have D1 := D.same k1
    generalize upd H s (.lst [.str r, .str z, .int n, .ref b, .ref c, .ref e]) = H1 at k1 hs S1 D1 ⊢
    -- the parts are apart from both
    have sv : ∀ {x : Addr} {o : HO}, H x = some o → x ≠ s := fun {x o} h e => by rw [e, ns] at h; cases h
    have od : ∀ H5, But a H1 H5 → D2 a s 6 H5 (.str r) ∧ D2 a s 6 H5 (.str z) ∧ D2 a s 6 H5 (.int n) ∧ (∀ x ∈ bx, D2 a s 3 H5 x) ∧ (∀ x ∈ ax, D2 a s 3 H5 x) ∧ (∀ x ∈ ex, D2 a s 3 H5 x) ∧ D2 a s 6 H5 (.ref b) ∧ D2 a s 6 H5 (.ref c) ∧ D2 a s 6 H5 (.ref e) := fun H5 B => by
      have D5 := D1.but B S1
      have S1' := S1
      have hsS : H5 s = some (.lst [.str r, .str z, .int n, .ref b, .ref c, .ref e]) := B _ _ xs.1 hs
      have ht1 : ∀ zs, H1 a ≠ some (.tup zs) := S1.ntup
      have ht2 : ∀ zs, H1 s ≠ some (.tup zs) := fun zs h => by rw [hs] at h; cases h
      have row : ∀ {α : Type} {img : α → List V} {l : Addr} {us : List V} {es : List α}, H l = some (.lst us) → l ≠ a → EntL img H us es → us.length ≤ 400 → ImgOk img → (∀ e ∈ es, AtomsOk (img e)) → (∀ x ∈ us, D2 a s 3 H5 x) ∧ D2 a s 6 H5 (.ref l) := fun {α img l us es} hl la en lu ok at_ => by
        have en1 := en.same k1
        have each : ∀ x ∈ us, D2 a s 3 H5 x := fun x m => (show D2 a s 3 H1 x from ⟨(en1.deep (n := 2) ok ht1 at_) x m, (en1.deep (n := 2) ok ht2 at_) x m⟩).but B
        exact ⟨each, (D2.row (n := 3) (.inl (B _ _ la (k1 _ _ hl))) la (sv hl) (by omega) each).le (by decide)⟩
      obtain ⟨b1, b2⟩ := row D.hb D.ba D.eb D.lb pimg_ok fun e m => goodP_atoms (g.gb e m) n64
      obtain ⟨c1, c2⟩ := row D.hc D.ca D.ea D.la aimg_ok fun e m => goodA_atoms (g.ga e m) n64
      obtain ⟨e1, e2⟩ := row D.he D.na D.ee' D.le pimg_ok fun e m => goodP_atoms (g.ge e m) n64
      exact ⟨D2.str (by omega), D2.str (by omega), D2.int (Nat.lt_of_lt_of_le (show ((n : Nat) : Int).natAbs < 2 ^ 10 by show ((n : Nat) : Int).natAbs < 1024; omega) (Nat.pow_le_pow_right (by omega) (by omega))), b1, c1, e1, b2, c2, e2⟩
    -- what is told at the end
    have fin : ∀ (H' : Hp) (d : Addr) (rv zv nv bv av ev : V) (f : MF), Mid K a ca s H H' d rv zv nv bv av ev f → ∀ t, H' t = none → Q (.ref t) (upd H' t (.tup [.ref s, .ref d])) := fun H' d rv zv nv bv av ev f M t nt => by
      have k := same_new (o := .tup [.ref s, .ref d]) nt
      have six : ∀ x ∈ [rv, zv, nv, bv, av, ev], Deep a 6 H' x := List.forall_mem_cons.mpr ⟨M.d1.1, List.forall_mem_cons.mpr ⟨M.d2.1, List.forall_mem_cons.mpr ⟨M.d3.1, List.forall_mem_cons.mpr ⟨M.d4.1, List.forall_mem_cons.mpr ⟨M.d5.1, List.forall_mem_cons.mpr ⟨M.d6.1, fun x m => absurd m List.not_mem_nil⟩⟩⟩⟩⟩⟩
      refine q t s d _ upd_same ⟨rv, zv, nv, bv, av, ev, f, k _ _ M.row, M.mf.kt (Kt.same k), k _ _ M.due, ((deep_lst (n := 6) xs.1 M.row (by show 6 ≤ 1000000; decide) six).same k).le (by decide), fun x m => ((MF.zs_deep (M.d1.1.le (by decide)) (M.d2.1.le (by decide)) (M.d3.1.le (by decide)) M.mf x m).same k)⟩ (M.b.trans (But.new nt)) (M.st.new nt)
    -- one more may be spoilt behind it
    have tail : ∀ (k : Nat) (σ0 : List (Option V)) (H' : Hp) (d : Addr) (rv zv nv bv av ev : V) (f : MF), Mid K a ca s H H' d rv zv nv bv av ev f → f.pos < k → k < 6 → ∀ j, j = k → ∃ zv' nv' bv' av' ev', [rv, zv, nv, bv, av, ev].set j .non = [rv, zv', nv', bv', av', ev'] ∧ Mid K a ca s H (upd H' s (.lst ([rv, zv, nv, bv, av, ev].set j .non))) d rv zv' nv' bv' av' ev' f := fun k σ0 H' d rv zv nv bv av ev f M hp h6 j jk => by
      subst jk
      obtain ⟨zv', nv', bv', av', ev', e, mf, ez, o1, o2, o3, o4, o5⟩ := M.mf.later hp h6
      have kp := But.put (o := .lst ([rv, zv, nv, bv, av, ev].set j .non)) M.row
      have dd : ∀ {x y : V}, (y = x ∨ y = .non) → D2 a s 6 H' x → D2 a s 6 H' y := fun {x y} h d => h.elim (fun h => by rw [h]; exact d) (fun h => by rw [h]; exact D2.non)
      have e2 := dd o1 M.d2
      have e3 := dd o2 M.d3
      have e4 := dd o3 M.d4
      have e5 := dd o4 M.d5
      have e6 := dd o5 M.d6
      have ds : d ≠ s := fun z => by
        have h := M.due
        rw [z, M.row] at h
        cases h
      exact ⟨zv', nv', bv', av', ev', e, But.grown (.refl H) ns M.b M.row, M.st.put xs, by rw [upd_same, e], mf.put (n := 4) kp M.d1.2 e2.2 e3.2 e4.2 e5.2 e6.2, by rw [upd_ne ds, ez]; exact M.due, M.d1.put kp, e2.put kp, e3.put kp, e4.put kp, e5.put kp, e6.put kp⟩
    refine ⟨_, rfl, a, ca, 6, rfl, S1, by decide, fun at0 H2 a0 a6 B2 S2 => ?_⟩
    obtain ⟨k, rfl⟩ := Int.eq_ofNat_of_zero_le a0
    obtain rfl | rfl | rfl | rfl | rfl | rfl : k = 0 ∨ k = 1 ∨ k = 2 ∨ k = 3 ∨ k = 4 ∨ k = 5 := by omega
    · refine ⟨by show 6 ≤ sizeLine; decide, fun nm nnm => ?_⟩
      have kn := same_new (o := .lst [V.str (Str.ofString "read"), .str (Str.ofString "write"), .str (Str.ofString "size"), .str (Str.ofString "begins"), .str (Str.ofString "arcs"), .str (Str.ofString "ends")]) nnm
      have hn : (upd H2 nm (.lst [V.str (Str.ofString "read"), .str (Str.ofString "write"), .str (Str.ofString "size"), .str (Str.ofString "begins"), .str (Str.ofString "arcs"), .str (Str.ofString "ends")])) nm = some (.lst [V.str (Str.ofString "read"), .str (Str.ofString "write"), .str (Str.ofString "size"), .str (Str.ofString "begins"), .str (Str.ofString "arcs"), .str (Str.ofString "ends")]) := upd_same
      have S3 := S2.new (o := .lst [V.str (Str.ofString "read"), .str (Str.ofString "write"), .str (Str.ofString "size"), .str (Str.ofString "begins"), .str (Str.ofString "arcs"), .str (Str.ofString "ends")]) nnm
      generalize upd H2 nm (.lst [V.str (Str.ofString "read"), .str (Str.ofString "write"), .str (Str.ofString "size"), .str (Str.ofString "begins"), .str (Str.ofString "arcs"), .str (Str.ofString "ends")]) = H3 at kn hn S3 ⊢
      have B3 := B2.trans (But.same kn)
      have D3 := D1.but B3 S1
      refine ⟨_, rfl, _, _, _, _, rfl, rfl, .inl (.inl hn), rfl, ?_⟩
      refine ⟨_, rfl, _, rfl, _, rfl, 3, ((0 : Nat) : Int), rfl, _, _, _, _, rfl, rfl, .inl (.inl D3.hp), rfl, b, bx, rfl, .inl (.inl (.inl D3.hb)), _, _, rfl, a, ca, 0, _, rfl, S3, ?_, fun pl H4 pl0 pl1 B4 S4 => ?_⟩
      · have := D.lb
        show (if (399 : Int) < ((bx.length : Nat) : Int) then (399 : Int) else ((bx.length : Nat) : Int)) - 0 < 1000000000
        split <;> omega
      have plb : pl ≤ 399 ∧ pl ≤ (bx.length : Int) := by
        have := D.lb
        revert pl1
        show (pl ≤ (if (399 : Int) < ((bx.length : Nat) : Int) then (399 : Int) else ((bx.length : Nat) : Int)) ∨ pl = 0) → _
        intro h
        rcases h with h | h
        · split at h <;> omega
        · omega
      obtain ⟨P', rfl⟩ := Int.eq_ofNat_of_zero_le pl0
      refine ⟨_, rfl, a, ca, 6, rfl, S4, by decide, fun dr H5 dr0 dr6 B5 S5 => ?_⟩
      have B15 := (B3.trans B4).trans B5
      have BH5 := (But.same (a := a) k1).trans B15
      have D5 := D1.but B15 S1
      have hs5 := B15 _ _ xs.1 hs
      have hp5 := D5.hp
      have old : ∀ {x : Addr} {o : HO}, H1 x = some o → x ≠ a → H5 x ≠ none := fun {x o} h ne => fun z => by
        by_cases t : ∃ ps, o = .tbl ps
        · obtain ⟨ps, rfl⟩ := t
          obtain ⟨qs, h2⟩ := B15.tab _ _ h
          rw [z] at h2
          cases h2
        · have := B15.old _ _ ne h (fun ps e => t ⟨ps, e⟩)
          rw [z] at this
          cases this
      have s5n : H5 s ≠ none := fun z => by rw [z] at hs5; cases hs5
      have a5n := S5.some.1
      obtain ⟨o1, o2, o3, ob, oc, oe, o4, o5, o6⟩ := od H5 B15
      refine ⟨fun σ' H' => ∃ (rv zv nv bv av ev : V) (f : MF) (d : Addr) (y : Option V), σ' = [some (.ref a), some (.ref p), some (.ref s), some (.int ((0 : Nat) : Int)), some (.str (Str.ofString "read")), some (.int (P' : Nat)), some (.int dr), some (.ref d), y] ∧ f.pos = 0 ∧ Mid K a ca s H H' d rv zv nv bv av ev f, ?_, ?_⟩
      · refine ⟨_, rfl, _, _, rfl, rfl, _, rfl, iteC (decide_eq_true (by decide)) ?_⟩
        refine ⟨_, rfl, _, rfl, _, rfl, _, _, _, _, rfl, rfl, .inl (.inl hp5), rfl, a, ca, r, rfl, S5, ar, fun v H6 bad dv B6 S6 => ?_⟩
        have hs6 := B6 _ _ xs.1 hs5
        have dv' : D2 a s 6 H6 v := ⟨(dv a a5n).le (by decide), (dv s s5n).le (by decide)⟩
        refine ⟨_, rfl, _, rfl, s, _, _, 0, rfl, rfl, hs6, rfl, _, rfl, _, rfl, _, _, _, _, rfl, rfl, .inl (.inl upd_same), rfl, by show 2 ≤ sizeLine; decide, fun d nd => ?_⟩
        exact ⟨(v), (.str z), (.int n), (.ref b), (.ref c), (.ref e), .read, d, _, rfl, rfl, Mid.mk' (K := K) (rv := v) (zv := .str z) (nv := .int n) (bv := .ref b) (av := .ref c) (ev := .ref e) (f := .read) ns xs (BH5.trans B6) S6 hs6 ⟨dv'.1.shal, bad⟩ dv' (o2.but B6) (o3.but B6) (o4.but B6) (o5.but B6) (o6.but B6) nd⟩
      · rintro σ' H6 ⟨rv, zv, nv, bv, av, ev, f, d, y, rfl, hpos, M⟩
        refine ⟨fun σ' H' => ∃ (rv zv nv bv av ev : V) (f : MF) (d : Addr) (y : Option V), σ' = [some (.ref a), some (.ref p), some (.ref s), some (.int ((0 : Nat) : Int)), some (.str (Str.ofString "read")), some (.int (P' : Nat)), some (.int dr), some (.ref d), y] ∧ Mid K a ca s H H' d rv zv nv bv av ev f, ?_, ?_⟩
        · refine ⟨_, rfl, _, _, rfl, rfl, _, rfl, iteC (decide_eq_true (by decide)) ⟨_, rfl, a, ca, 2, rfl, M.st, by decide, fun d2 H7 _ _ B7 S7 => ⟨rfl, _, rfl, ite2 (fun _ => ?_) (fun _ => ?_)⟩⟩⟩
          · refine ⟨_, rfl, _, rfl, _, _, rfl, rfl, _, rfl, _, rfl, _, _, rfl, rfl, a, ca, 5 - ((0 : Nat) : Int), rfl, S7, by decide, fun m H8 m0 m1 B8 S8 => ?_⟩
            obtain ⟨m', rfl⟩ := Int.eq_ofNat_of_zero_le m0
            have m4 : 0 + 1 + m' < 6 := by
              have : ((m' : Nat) : Int) < 5 - ((0 : Nat) : Int) ∨ ((m' : Nat) : Int) = 0 := m1
              omega
            have ej : ((0 : Nat) : Int) + 1 + ((m' : Nat) : Int) = ((0 + 1 + m' : Nat) : Int) := by omega
            have ix : ∀ j : Nat, j < 6 → ixN 6 (j : Int) = some j := by decide
            have M8 := (M.but B7 S7 xs.1).but B8 S8 xs.1
            obtain ⟨zv', nv', bv', av', ev', e1, M9⟩ := tail (0 + 1 + m') [] H8 d rv zv nv bv av ev f M8 (by rw [hpos]; omega) m4 _ rfl
            refine ⟨_, _, rfl, rfl, s, _, _, 0 + 1 + m', rfl, rfl, M8.row, ?_, rv, zv', nv', bv', av', ev', f, d, y, rfl, M9⟩
            show ixN 6 (((0 : Nat) : Int) + 1 + ((m' : Nat) : Int)) = _
            rw [ej]
            exact ix _ m4
          · exact ⟨rv, zv, nv, bv, av, ev, f, d, y, rfl, M.but B7 S7 xs.1⟩
        · rintro σ' H7 ⟨rv, zv, nv, bv, av, ev, f, d, y, rfl, M⟩
          exact ⟨_, rfl, _, rfl, by show 2 ≤ sizeLine; decide, fun t nt => fin H7 d rv zv nv bv av ev f M t nt⟩
    · refine ⟨by show 6 ≤ sizeLine; decide, fun nm nnm => ?_⟩
      have kn := same_new (o := .lst [V.str (Str.ofString "read"), .str (Str.ofString "write"), .str (Str.ofString "size"), .str (Str.ofString "begins"), .str (Str.ofString "arcs"), .str (Str.ofString "ends")]) nnm
      have hn : (upd H2 nm (.lst [V.str (Str.ofString "read"), .str (Str.ofString "write"), .str (Str.ofString "size"), .str (Str.ofString "begins"), .str (Str.ofString "arcs"), .str (Str.ofString "ends")])) nm = some (.lst [V.str (Str.ofString "read"), .str (Str.ofString "write"), .str (Str.ofString "size"), .str (Str.ofString "begins"), .str (Str.ofString "arcs"), .str (Str.ofString "ends")]) := upd_same
      have S3 := S2.new (o := .lst [V.str (Str.ofString "read"), .str (Str.ofString "write"), .str (Str.ofString "size"), .str (Str.ofString "begins"), .str (Str.ofString "arcs"), .str (Str.ofString "ends")]) nnm
      generalize upd H2 nm (.lst [V.str (Str.ofString "read"), .str (Str.ofString "write"), .str (Str.ofString "size"), .str (Str.ofString "begins"), .str (Str.ofString "arcs"), .str (Str.ofString "ends")]) = H3 at kn hn S3 ⊢
      have B3 := B2.trans (But.same kn)
      have D3 := D1.but B3 S1
      refine ⟨_, rfl, _, _, _, _, rfl, rfl, .inl (.inl hn), rfl, ?_⟩
      refine ⟨_, rfl, _, rfl, _, rfl, 3, ((1 : Nat) : Int), rfl, _, _, _, _, rfl, rfl, .inl (.inl D3.hp), rfl, b, bx, rfl, .inl (.inl (.inl D3.hb)), _, _, rfl, a, ca, 0, _, rfl, S3, ?_, fun pl H4 pl0 pl1 B4 S4 => ?_⟩
      · have := D.lb
        show (if (399 : Int) < ((bx.length : Nat) : Int) then (399 : Int) else ((bx.length : Nat) : Int)) - 0 < 1000000000
        split <;> omega
      have plb : pl ≤ 399 ∧ pl ≤ (bx.length : Int) := by
        have := D.lb
        revert pl1
        show (pl ≤ (if (399 : Int) < ((bx.length : Nat) : Int) then (399 : Int) else ((bx.length : Nat) : Int)) ∨ pl = 0) → _
        intro h
        rcases h with h | h
        · split at h <;> omega
        · omega
      obtain ⟨P', rfl⟩ := Int.eq_ofNat_of_zero_le pl0
      refine ⟨_, rfl, a, ca, 6, rfl, S4, by decide, fun dr H5 dr0 dr6 B5 S5 => ?_⟩
      have B15 := (B3.trans B4).trans B5
      have BH5 := (But.same (a := a) k1).trans B15
      have D5 := D1.but B15 S1
      have hs5 := B15 _ _ xs.1 hs
      have hp5 := D5.hp
      have old : ∀ {x : Addr} {o : HO}, H1 x = some o → x ≠ a → H5 x ≠ none := fun {x o} h ne => fun z => by
        by_cases t : ∃ ps, o = .tbl ps
        · obtain ⟨ps, rfl⟩ := t
          obtain ⟨qs, h2⟩ := B15.tab _ _ h
          rw [z] at h2
          cases h2
        · have := B15.old _ _ ne h (fun ps e => t ⟨ps, e⟩)
          rw [z] at this
          cases this
      have s5n : H5 s ≠ none := fun z => by rw [z] at hs5; cases hs5
      have a5n := S5.some.1
      obtain ⟨o1, o2, o3, ob, oc, oe, o4, o5, o6⟩ := od H5 B15
      refine ⟨fun σ' H' => ∃ (rv zv nv bv av ev : V) (f : MF) (d : Addr) (y : Option V), σ' = [some (.ref a), some (.ref p), some (.ref s), some (.int ((1 : Nat) : Int)), some (.str (Str.ofString "write")), some (.int (P' : Nat)), some (.int dr), some (.ref d), y] ∧ f.pos = 1 ∧ Mid K a ca s H H' d rv zv nv bv av ev f, ?_, ?_⟩
      · refine ⟨_, rfl, _, _, rfl, rfl, _, rfl, iteC (decide_eq_true (by decide)) ?_⟩
        refine ⟨_, rfl, _, rfl, _, rfl, _, _, _, _, rfl, rfl, .inl (.inl hp5), rfl, a, ca, z, rfl, S5, az, fun v H6 bad dv B6 S6 => ?_⟩
        have hs6 := B6 _ _ xs.1 hs5
        have dv' : D2 a s 6 H6 v := ⟨(dv a a5n).le (by decide), (dv s s5n).le (by decide)⟩
        refine ⟨_, rfl, _, rfl, s, _, _, 1, rfl, rfl, hs6, rfl, _, rfl, _, rfl, _, _, _, _, rfl, rfl, .inl (.inl upd_same), rfl, by show 2 ≤ sizeLine; decide, fun d nd => ?_⟩
        exact ⟨(.str r), (v), (.int n), (.ref b), (.ref c), (.ref e), .write, d, _, rfl, rfl, Mid.mk' (K := K) (rv := .str r) (zv := v) (nv := .int n) (bv := .ref b) (av := .ref c) (ev := .ref e) (f := .write) ns xs (BH5.trans B6) S6 hs6 ⟨⟨r, rfl, ar⟩, dv'.1.shal, bad⟩ (o1.but B6) dv' (o3.but B6) (o4.but B6) (o5.but B6) (o6.but B6) nd⟩
      · rintro σ' H6 ⟨rv, zv, nv, bv, av, ev, f, d, y, rfl, hpos, M⟩
        refine ⟨fun σ' H' => ∃ (rv zv nv bv av ev : V) (f : MF) (d : Addr) (y : Option V), σ' = [some (.ref a), some (.ref p), some (.ref s), some (.int ((1 : Nat) : Int)), some (.str (Str.ofString "write")), some (.int (P' : Nat)), some (.int dr), some (.ref d), y] ∧ Mid K a ca s H H' d rv zv nv bv av ev f, ?_, ?_⟩
        · refine ⟨_, rfl, _, _, rfl, rfl, _, rfl, iteC (decide_eq_true (by decide)) ⟨_, rfl, a, ca, 2, rfl, M.st, by decide, fun d2 H7 _ _ B7 S7 => ⟨rfl, _, rfl, ite2 (fun _ => ?_) (fun _ => ?_)⟩⟩⟩
          · refine ⟨_, rfl, _, rfl, _, _, rfl, rfl, _, rfl, _, rfl, _, _, rfl, rfl, a, ca, 5 - ((1 : Nat) : Int), rfl, S7, by decide, fun m H8 m0 m1 B8 S8 => ?_⟩
            obtain ⟨m', rfl⟩ := Int.eq_ofNat_of_zero_le m0
            have m4 : 1 + 1 + m' < 6 := by
              have : ((m' : Nat) : Int) < 5 - ((1 : Nat) : Int) ∨ ((m' : Nat) : Int) = 0 := m1
              omega
            have ej : ((1 : Nat) : Int) + 1 + ((m' : Nat) : Int) = ((1 + 1 + m' : Nat) : Int) := by omega
            have ix : ∀ j : Nat, j < 6 → ixN 6 (j : Int) = some j := by decide
            have M8 := (M.but B7 S7 xs.1).but B8 S8 xs.1
            obtain ⟨zv', nv', bv', av', ev', e1, M9⟩ := tail (1 + 1 + m') [] H8 d rv zv nv bv av ev f M8 (by rw [hpos]; omega) m4 _ rfl
            refine ⟨_, _, rfl, rfl, s, _, _, 1 + 1 + m', rfl, rfl, M8.row, ?_, rv, zv', nv', bv', av', ev', f, d, y, rfl, M9⟩
            show ixN 6 (((1 : Nat) : Int) + 1 + ((m' : Nat) : Int)) = _
            rw [ej]
            exact ix _ m4
          · exact ⟨rv, zv, nv, bv, av, ev, f, d, y, rfl, M.but B7 S7 xs.1⟩
        · rintro σ' H7 ⟨rv, zv, nv, bv, av, ev, f, d, y, rfl, M⟩
          exact ⟨_, rfl, _, rfl, by show 2 ≤ sizeLine; decide, fun t nt => fin H7 d rv zv nv bv av ev f M t nt⟩
    · refine ⟨by show 6 ≤ sizeLine; decide, fun nm nnm => ?_⟩
      have kn := same_new (o := .lst [V.str (Str.ofString "read"), .str (Str.ofString "write"), .str (Str.ofString "size"), .str (Str.ofString "begins"), .str (Str.ofString "arcs"), .str (Str.ofString "ends")]) nnm
      have hn : (upd H2 nm (.lst [V.str (Str.ofString "read"), .str (Str.ofString "write"), .str (Str.ofString "size"), .str (Str.ofString "begins"), .str (Str.ofString "arcs"), .str (Str.ofString "ends")])) nm = some (.lst [V.str (Str.ofString "read"), .str (Str.ofString "write"), .str (Str.ofString "size"), .str (Str.ofString "begins"), .str (Str.ofString "arcs"), .str (Str.ofString "ends")]) := upd_same
      have S3 := S2.new (o := .lst [V.str (Str.ofString "read"), .str (Str.ofString "write"), .str (Str.ofString "size"), .str (Str.ofString "begins"), .str (Str.ofString "arcs"), .str (Str.ofString "ends")]) nnm
      generalize upd H2 nm (.lst [V.str (Str.ofString "read"), .str (Str.ofString "write"), .str (Str.ofString "size"), .str (Str.ofString "begins"), .str (Str.ofString "arcs"), .str (Str.ofString "ends")]) = H3 at kn hn S3 ⊢
      have B3 := B2.trans (But.same kn)
      have D3 := D1.but B3 S1
      refine ⟨_, rfl, _, _, _, _, rfl, rfl, .inl (.inl hn), rfl, ?_⟩
      refine ⟨_, rfl, _, rfl, _, rfl, 3, ((2 : Nat) : Int), rfl, _, _, _, _, rfl, rfl, .inl (.inl D3.hp), rfl, b, bx, rfl, .inl (.inl (.inl D3.hb)), _, _, rfl, a, ca, 0, _, rfl, S3, ?_, fun pl H4 pl0 pl1 B4 S4 => ?_⟩
      · have := D.lb
        show (if (399 : Int) < ((bx.length : Nat) : Int) then (399 : Int) else ((bx.length : Nat) : Int)) - 0 < 1000000000
        split <;> omega
      have plb : pl ≤ 399 ∧ pl ≤ (bx.length : Int) := by
        have := D.lb
        revert pl1
        show (pl ≤ (if (399 : Int) < ((bx.length : Nat) : Int) then (399 : Int) else ((bx.length : Nat) : Int)) ∨ pl = 0) → _
        intro h
        rcases h with h | h
        · split at h <;> omega
        · omega
      obtain ⟨P', rfl⟩ := Int.eq_ofNat_of_zero_le pl0
      refine ⟨_, rfl, a, ca, 6, rfl, S4, by decide, fun dr H5 dr0 dr6 B5 S5 => ?_⟩
      have B15 := (B3.trans B4).trans B5
      have BH5 := (But.same (a := a) k1).trans B15
      have D5 := D1.but B15 S1
      have hs5 := B15 _ _ xs.1 hs
      have hp5 := D5.hp
      have old : ∀ {x : Addr} {o : HO}, H1 x = some o → x ≠ a → H5 x ≠ none := fun {x o} h ne => fun z => by
        by_cases t : ∃ ps, o = .tbl ps
        · obtain ⟨ps, rfl⟩ := t
          obtain ⟨qs, h2⟩ := B15.tab _ _ h
          rw [z] at h2
          cases h2
        · have := B15.old _ _ ne h (fun ps e => t ⟨ps, e⟩)
          rw [z] at this
          cases this
      have s5n : H5 s ≠ none := fun z => by rw [z] at hs5; cases hs5
      have a5n := S5.some.1
      obtain ⟨o1, o2, o3, ob, oc, oe, o4, o5, o6⟩ := od H5 B15
      refine ⟨fun σ' H' => ∃ (rv zv nv bv av ev : V) (f : MF) (d : Addr) (y : Option V), σ' = [some (.ref a), some (.ref p), some (.ref s), some (.int ((2 : Nat) : Int)), some (.str (Str.ofString "size")), some (.int (P' : Nat)), some (.int dr), some (.ref d), y] ∧ f.pos = 2 ∧ Mid K a ca s H H' d rv zv nv bv av ev f, ?_, ?_⟩
      · refine ⟨_, rfl, _, _, rfl, rfl, _, rfl, iteN (decide_eq_false (by decide)) ?_⟩
        refine ⟨_, rfl, rfl, _, rfl, iteC (decide_eq_true rfl) ?_⟩
        refine ⟨_, rfl, a, ca, 64, rfl, S5, by decide, by decide, fun v H6 bad dv B6 S6 => ?_⟩
        have hs6 := B6 _ _ xs.1 hs5
        have dv' : D2 a s 6 H6 v := ⟨(dv a a5n).le (by decide), (dv s s5n).le (by decide)⟩
        refine ⟨_, rfl, _, rfl, s, _, _, 2, rfl, rfl, hs6, rfl, _, rfl, _, rfl, _, _, _, _, rfl, rfl, .inl (.inl upd_same), rfl, by show 2 ≤ sizeLine; decide, fun d nd => ?_⟩
        exact ⟨(.str r), (.str z), (v), (.ref b), (.ref c), (.ref e), .size, d, _, rfl, rfl, Mid.mk' (K := K) (rv := .str r) (zv := .str z) (nv := v) (bv := .ref b) (av := .ref c) (ev := .ref e) (f := .size) ns xs (BH5.trans B6) S6 hs6 ⟨⟨r, rfl, ar⟩, ⟨z, rfl, az⟩, dv'.1.shal, bad⟩ (o1.but B6) (o2.but B6) dv' (o4.but B6) (o5.but B6) (o6.but B6) nd⟩
      · rintro σ' H6 ⟨rv, zv, nv, bv, av, ev, f, d, y, rfl, hpos, M⟩
        refine ⟨fun σ' H' => ∃ (rv zv nv bv av ev : V) (f : MF) (d : Addr) (y : Option V), σ' = [some (.ref a), some (.ref p), some (.ref s), some (.int ((2 : Nat) : Int)), some (.str (Str.ofString "size")), some (.int (P' : Nat)), some (.int dr), some (.ref d), y] ∧ Mid K a ca s H H' d rv zv nv bv av ev f, ?_, ?_⟩
        · refine ⟨_, rfl, _, _, rfl, rfl, _, rfl, iteC (decide_eq_true (by decide)) ⟨_, rfl, a, ca, 2, rfl, M.st, by decide, fun d2 H7 _ _ B7 S7 => ⟨rfl, _, rfl, ite2 (fun _ => ?_) (fun _ => ?_)⟩⟩⟩
          · refine ⟨_, rfl, _, rfl, _, _, rfl, rfl, _, rfl, _, rfl, _, _, rfl, rfl, a, ca, 5 - ((2 : Nat) : Int), rfl, S7, by decide, fun m H8 m0 m1 B8 S8 => ?_⟩
            obtain ⟨m', rfl⟩ := Int.eq_ofNat_of_zero_le m0
            have m4 : 2 + 1 + m' < 6 := by
              have : ((m' : Nat) : Int) < 5 - ((2 : Nat) : Int) ∨ ((m' : Nat) : Int) = 0 := m1
              omega
            have ej : ((2 : Nat) : Int) + 1 + ((m' : Nat) : Int) = ((2 + 1 + m' : Nat) : Int) := by omega
            have ix : ∀ j : Nat, j < 6 → ixN 6 (j : Int) = some j := by decide
            have M8 := (M.but B7 S7 xs.1).but B8 S8 xs.1
            obtain ⟨zv', nv', bv', av', ev', e1, M9⟩ := tail (2 + 1 + m') [] H8 d rv zv nv bv av ev f M8 (by rw [hpos]; omega) m4 _ rfl
            refine ⟨_, _, rfl, rfl, s, _, _, 2 + 1 + m', rfl, rfl, M8.row, ?_, rv, zv', nv', bv', av', ev', f, d, y, rfl, M9⟩
            show ixN 6 (((2 : Nat) : Int) + 1 + ((m' : Nat) : Int)) = _
            rw [ej]
            exact ix _ m4
          · exact ⟨rv, zv, nv, bv, av, ev, f, d, y, rfl, M.but B7 S7 xs.1⟩
        · rintro σ' H7 ⟨rv, zv, nv, bv, av, ev, f, d, y, rfl, M⟩
          exact ⟨_, rfl, _, rfl, by show 2 ≤ sizeLine; decide, fun t nt => fin H7 d rv zv nv bv av ev f M t nt⟩
    · refine ⟨by show 6 ≤ sizeLine; decide, fun nm nnm => ?_⟩
      have kn := same_new (o := .lst [V.str (Str.ofString "read"), .str (Str.ofString "write"), .str (Str.ofString "size"), .str (Str.ofString "begins"), .str (Str.ofString "arcs"), .str (Str.ofString "ends")]) nnm
      have hn : (upd H2 nm (.lst [V.str (Str.ofString "read"), .str (Str.ofString "write"), .str (Str.ofString "size"), .str (Str.ofString "begins"), .str (Str.ofString "arcs"), .str (Str.ofString "ends")])) nm = some (.lst [V.str (Str.ofString "read"), .str (Str.ofString "write"), .str (Str.ofString "size"), .str (Str.ofString "begins"), .str (Str.ofString "arcs"), .str (Str.ofString "ends")]) := upd_same
      have S3 := S2.new (o := .lst [V.str (Str.ofString "read"), .str (Str.ofString "write"), .str (Str.ofString "size"), .str (Str.ofString "begins"), .str (Str.ofString "arcs"), .str (Str.ofString "ends")]) nnm
      generalize upd H2 nm (.lst [V.str (Str.ofString "read"), .str (Str.ofString "write"), .str (Str.ofString "size"), .str (Str.ofString "begins"), .str (Str.ofString "arcs"), .str (Str.ofString "ends")]) = H3 at kn hn S3 ⊢
      have B3 := B2.trans (But.same kn)
      have D3 := D1.but B3 S1
      refine ⟨_, rfl, _, _, _, _, rfl, rfl, .inl (.inl hn), rfl, ?_⟩
      refine ⟨_, rfl, _, rfl, _, rfl, 3, ((3 : Nat) : Int), rfl, _, _, _, _, rfl, rfl, .inl (.inl D3.hp), rfl, b, bx, rfl, .inl (.inl (.inl D3.hb)), _, _, rfl, a, ca, 0, _, rfl, S3, ?_, fun pl H4 pl0 pl1 B4 S4 => ?_⟩
      · have := D.lb
        show (if (399 : Int) < ((bx.length : Nat) : Int) then (399 : Int) else ((bx.length : Nat) : Int)) - 0 < 1000000000
        split <;> omega
      have plb : pl ≤ 399 ∧ pl ≤ (bx.length : Int) := by
        have := D.lb
        revert pl1
        show (pl ≤ (if (399 : Int) < ((bx.length : Nat) : Int) then (399 : Int) else ((bx.length : Nat) : Int)) ∨ pl = 0) → _
        intro h
        rcases h with h | h
        · split at h <;> omega
        · omega
      obtain ⟨P', rfl⟩ := Int.eq_ofNat_of_zero_le pl0
      refine ⟨_, rfl, a, ca, 6, rfl, S4, by decide, fun dr H5 dr0 dr6 B5 S5 => ?_⟩
      have B15 := (B3.trans B4).trans B5
      have BH5 := (But.same (a := a) k1).trans B15
      have D5 := D1.but B15 S1
      have hs5 := B15 _ _ xs.1 hs
      have hp5 := D5.hp
      have old : ∀ {x : Addr} {o : HO}, H1 x = some o → x ≠ a → H5 x ≠ none := fun {x o} h ne => fun z => by
        by_cases t : ∃ ps, o = .tbl ps
        · obtain ⟨ps, rfl⟩ := t
          obtain ⟨qs, h2⟩ := B15.tab _ _ h
          rw [z] at h2
          cases h2
        · have := B15.old _ _ ne h (fun ps e => t ⟨ps, e⟩)
          rw [z] at this
          cases this
      have s5n : H5 s ≠ none := fun z => by rw [z] at hs5; cases hs5
      have a5n := S5.some.1
      obtain ⟨o1, o2, o3, ob, oc, oe, o4, o5, o6⟩ := od H5 B15
      refine ⟨fun σ' H' => ∃ (rv zv nv bv av ev : V) (f : MF) (d : Addr) (y : Option V), σ' = [some (.ref a), some (.ref p), some (.ref s), some (.int ((3 : Nat) : Int)), some (.str (Str.ofString "begins")), some (.int (P' : Nat)), some (.int dr), some (.ref d), y] ∧ f.pos = 3 ∧ Mid K a ca s H H' d rv zv nv bv av ev f, ?_, ?_⟩
      · refine ⟨_, rfl, _, _, rfl, rfl, _, rfl, iteN (decide_eq_false (by decide)) ?_⟩
        refine ⟨_, rfl, rfl, _, rfl, iteN (decide_eq_false (by intro z; injection z with z; revert z; show ¬ ((3 : Nat) : Int) = 2; omega)) ?_⟩
        refine ⟨_, rfl, rfl, _, rfl, ite2 (fun _ => ?_) (fun _ => ?_)⟩
        · refine ⟨_, rfl, by show 6 ≤ sizeLine; decide, fun q6 nq => ⟨a, ca, S5.new nq, .inr ⟨q6, _, rfl, (S5.ne nq).1, upd_same, by show 0 < 6; decide, by show 6 ≤ 1000000; decide, fun v H6 mv B6' S6 => ?_⟩⟩⟩
          have B6 := (But.new (a := a) (o := .lst [V.non, .bl true, .int 0, .int 7, .str (Str.ofString ""), .str (Str.ofString "ab")]) nq).trans B6'
          have all : ∀ x ∈ ([V.non, .bl true, .int 0, .int 7, .str (Str.ofString ""), .str (Str.ofString "ab")] : List V), plainV x = true ∧ D2 a s 6 H6 x := List.forall_mem_cons.mpr ⟨⟨rfl, D2.non⟩, List.forall_mem_cons.mpr ⟨⟨rfl, deep_bl, deep_bl⟩, List.forall_mem_cons.mpr ⟨⟨rfl, D2.int (small_pow (by decide))⟩, List.forall_mem_cons.mpr ⟨⟨rfl, D2.int (small_pow (by decide))⟩, List.forall_mem_cons.mpr ⟨⟨rfl, D2.str (by decide +kernel)⟩, List.forall_mem_cons.mpr ⟨⟨rfl, D2.str (by decide +kernel)⟩, fun x m => absurd m List.not_mem_nil⟩⟩⟩⟩⟩⟩
          obtain ⟨pv, dv'⟩ := all v mv
          have hs6 := B6 _ _ xs.1 hs5
          have D6 := D5.but B6 S5
          refine ⟨_, rfl, _, rfl, s, _, _, 3, rfl, rfl, hs6, rfl, _, rfl, by show 3 ≤ sizeLine; decide, fun d nd => ?_⟩
          exact ⟨(.str r), (.str z), (.int n), (v), (.ref c), (.ref e), .begins .shape, d, _, rfl, rfl, Mid.mk' (K := K) (rv := .str r) (zv := .str z) (nv := .int n) (bv := v) (av := .ref c) (ev := .ref e) (f := .begins .shape) ns xs (BH5.trans B6) S6 hs6 ⟨r, z, n, ⟨rfl, rfl, rfl, ar, az, g.n0, n64⟩, pv⟩ (o1.but B6) (o2.but B6) (o3.but B6) dv' (o5.but B6) (o6.but B6) nd⟩
        refine ⟨_, rfl, rfl, _, rfl, ite2 (fun _ => ?_) (fun _ => ?_)⟩
        · refine ⟨_, rfl, _, rfl, _, rfl, _, rfl, a, ca, p, ((3 : Nat) : Int), r, z, n, _, rfl, S5, D5.pa, hp5, ar, az, g.n0, n64, fun v H6 ok1 ok2 dv B6 S6 => ?_⟩
          have D6 := D5.but B6 S5
          have hs6 := B6 _ _ xs.1 hs5
          have dv' : D2 a s 3 H6 v := ⟨(dv a a5n).le (by decide), (dv s s5n).le (by decide)⟩
          refine ⟨by show 1 ≤ sizeLine; decide, fun u1 nu1 => ?_⟩
          have c1 := same_new (o := .lst [v]) nu1
          have h1 : (upd H6 u1 (.lst [v])) u1 = some (.lst [v]) := upd_same
          have R1 := S6.new (o := .lst [v]) nu1
          have D7 := D6.same c1
          generalize upd H6 u1 (.lst [v]) = G1 at c1 h1 R1 D7 ⊢
          refine ⟨_, rfl, _, rfl, _, _, _, _, rfl, rfl, .inl (.inl D7.hp), rfl, u1, b, _, _, rfl, rfl, h1, D7.hb, Nat.le_trans (show 1 + bx.length ≤ 401 by have := D.lb; omega) (by decide), fun u2 nu2 => ?_⟩
          have c2 := same_new (o := .lst ([v] ++ bx)) nu2
          have h2 : (upd G1 u2 (.lst ([v] ++ bx))) u2 = some (.lst ([v] ++ bx)) := upd_same
          have R2 := R1.new (o := .lst ([v] ++ bx)) nu2
          have D8 := D7.same c2
          generalize upd G1 u2 (.lst ([v] ++ bx)) = G2 at c2 h2 R2 D8 ⊢
          refine ⟨_, rfl, _, _, _, _, rfl, rfl, .inl (.inl D8.hp), rfl, by show 1 ≤ sizeLine; decide, fun u3 nu3 => ?_⟩
          have c3 := same_new (o := .lst [.str z]) nu3
          have h3 : (upd G2 u3 (.lst [.str z])) u3 = some (.lst [.str z]) := upd_same
          have R3 := R2.new (o := .lst [.str z]) nu3
          have h2 := c3 _ _ h2
          generalize upd G2 u3 (.lst [.str z]) = G3 at c3 h3 h2 R3 ⊢
          refine ⟨u3, 400, _, rfl, rfl, h3, by decide, by decide, by show 1 * 400 ≤ sizeLine; decide, fun u4 nu4 => ?_⟩
          have c4 := same_new (o := .lst (List.replicate (400 : Int).toNat [.str z]).flatten) nu4
          have h4 : (upd G3 u4 (.lst (List.replicate (400 : Int).toNat [.str z]).flatten)) u4 = some (.lst (List.replicate (400 : Int).toNat [.str z]).flatten) := upd_same
          have R4 := R3.new (o := .lst (List.replicate (400 : Int).toNat [.str z]).flatten) nu4
          have h2 := c4 _ _ h2
          have lrep : (List.replicate (400 : Int).toNat [V.str z]).flatten.length = 400 := by rw [List.flatten_replicate_singleton, List.length_replicate]; rfl
          have mrep : ∀ y ∈ (List.replicate (400 : Int).toNat [V.str z]).flatten, y = .str z := fun y m => by
            rw [List.flatten_replicate_singleton] at m
            exact List.eq_of_mem_replicate m
          generalize (List.replicate (400 : Int).toNat [V.str z]).flatten = zz at h2 h4 R4 c4 lrep mrep ⊢
          generalize upd G3 u4 (.lst zz) = G4 at c4 h4 h2 R4 ⊢
          refine ⟨u2, u4, _, _, rfl, rfl, h2, h4, Nat.le_trans (show ([v] ++ bx).length + zz.length ≤ 801 by rw [List.length_append, lrep]; show 1 + bx.length + 400 ≤ 801; have := D.lb; omega) (by decide), fun u5 nu5 => ?_⟩
          have c5 := same_new (o := .lst ([v] ++ bx ++ zz)) nu5
          have h5 : (upd G4 u5 (.lst ([v] ++ bx ++ zz))) u5 = some (.lst ([v] ++ bx ++ zz)) := upd_same
          have R5 := R4.new (o := .lst ([v] ++ bx ++ zz)) nu5
          generalize upd G4 u5 (.lst ([v] ++ bx ++ zz)) = G5 at c5 h5 R5 ⊢
          refine ⟨401, rfl, u5, _, rfl, .inl (.inl h5), fun u6 nu6 => ?_⟩
          have c6 := same_new (o := .lst (cutV ([v] ++ bx ++ zz) none (some 401))) nu6
          have h6 : (upd G5 u6 (.lst (cutV ([v] ++ bx ++ zz) none (some 401)))) u6 = some (.lst (cutV ([v] ++ bx ++ zz) none (some 401))) := upd_same
          have R6 := R5.new (o := .lst (cutV ([v] ++ bx ++ zz) none (some 401))) nu6
          have ec : cutV ([v] ++ bx ++ zz) none (some 401) = ([v] ++ bx ++ zz).take 401 := cut_take_all (k := 401)
          rw [ec] at h6 c6 R6 ⊢
          have x6 := (R5.ne nu6).1
          generalize upd G5 u6 (.lst (([v] ++ bx ++ zz).take 401)) = G6 at c6 h6 R6 ⊢
          have ck := ((((c1.trans c2).trans c3).trans c4).trans c5).trans c6
          have lk : (([v] ++ bx ++ zz).take 401).length = 401 := by
            rw [List.length_take, List.length_append, List.length_append, lrep]
            show min 401 (1 + bx.length + 400) = 401
            omega
          refine ⟨a, ca, u6, _, rfl, R6, x6, h6, by omega, fun wv H9 wa w0 hw B9 S9 => ?_⟩
          have B69 := (But.same (a := a) ck).trans B9
          have B59 := B6.trans B69
          have hs9 := B69 _ _ xs.1 hs6
          have D9 := D6.but B69 S6
          have ws : wv ≠ s := fun e => by rw [e, ck _ _ hs6] at w0; cases w0
          have drow : D2 a s 6 H9 (.ref wv) := (D2.row (n := 3) hw wa ws (by omega) fun y m => by
            rcases List.mem_append.mp (List.mem_of_mem_take m) with m | m
            · rcases List.mem_append.mp m with m | m
              · rw [List.mem_singleton.mp m]; exact dv'.but B69
              · exact (ob y m).but B59
            · rw [mrep y m]; exact D2.str (by omega)).le (by decide)
          refine ⟨_, rfl, _, rfl, s, _, _, 3, rfl, rfl, hs9, rfl, _, rfl, by show 3 ≤ sizeLine; decide, fun d nd => ?_⟩
          exact ⟨(.str r), (.str z), (.int n), (.ref wv), (.ref c), (.ref e), .begins .large, d, _, rfl, rfl, Mid.mk' (K := K) (rv := .str r) (zv := .str z) (nv := .int n) (bv := .ref wv) (av := .ref c) (ev := .ref e) (f := .begins .large) ns xs (BH5.trans B59) S9 hs9 ⟨r, z, n, ⟨rfl, rfl, rfl, ar, az, g.n0, n64⟩, ⟨wv, _, rfl, hw.elim .inl (fun h => .inr (.inl h)), by omega, by omega⟩⟩ (o1.but B59) (o2.but B59) (o3.but B59) drow (o5.but B59) (o6.but B59) nd⟩
        · have hrow5 := D5.hb
          refine ⟨_, rfl, _, rfl, _, _, _, _, rfl, rfl, .inl (.inl hp5), rfl, _, rfl, _, rfl, b, bx, rfl, .inl (.inl hrow5), fun u1 nu1 => ?_⟩
          have Pl : P' ≤ bx.length := by omega
          have e1 : cutV bx none (some (P' : Int)) = bx.take P' := cut_take_all
          have c1 := same_new (o := .lst (cutV bx none (some (P' : Int)))) nu1
          have h1 : (upd H5 u1 (.lst (cutV bx none (some (P' : Int))))) u1 = some (.lst (cutV bx none (some (P' : Int)))) := upd_same
          have R1 := S5.new (o := .lst (cutV bx none (some (P' : Int)))) nu1
          rw [e1] at c1 h1 R1 ⊢
          have D6 := D5.same c1
          have x1 := (S5.ne nu1).1
          generalize upd H5 u1 (.lst (bx.take P')) = G1 at c1 h1 R1 D6 ⊢
          have olds : ∀ c, H5 c ≠ none → G1 c ≠ none := fun c h z => h (c1.free z)
          refine ⟨_, rfl, _, rfl, _, rfl, a, ca, p, ((3 : Nat) : Int), r, z, n, _, rfl, R1, D6.pa, D6.hp, ar, az, g.n0, n64, fun v H7 ok1 ok2 dv B7 S7 => ?_⟩
          have BH7 := (But.same (a := a) c1).trans B7
          have D7 := D6.but B7 R1
          have hs7 := BH7 _ _ xs.1 hs5
          have dv' : D2 a s 3 H7 v := ⟨(dv a (olds a a5n)).le (by decide), (dv s (olds s s5n)).le (by decide)⟩
          have h1 := B7 _ _ x1 h1
          refine ⟨by show 1 ≤ sizeLine; decide, fun u2 nu2 => ?_⟩
          have c2 := same_new (o := .lst [v]) nu2
          have h2 : (upd H7 u2 (.lst [v])) u2 = some (.lst [v]) := upd_same
          have R2 := S7.new (o := .lst [v]) nu2
          have h1 := c2 _ _ h1
          have D8 := D7.same c2
          generalize upd H7 u2 (.lst [v]) = G2 at c2 h1 h2 R2 D8 ⊢
          refine ⟨u1, u2, _, _, rfl, rfl, h1, h2, Nat.le_trans (show (bx.take P').length + 1 ≤ 401 by rw [List.length_take]; have := D.lb; omega) (by decide), fun u3 nu3 => ?_⟩
          have c3 := same_new (o := .lst (bx.take P' ++ [v])) nu3
          have h3 : (upd G2 u3 (.lst (bx.take P' ++ [v]))) u3 = some (.lst (bx.take P' ++ [v])) := upd_same
          have R3 := R2.new (o := .lst (bx.take P' ++ [v])) nu3
          have D9 := D8.same c3
          generalize upd G2 u3 (.lst (bx.take P' ++ [v])) = G3 at c3 h3 R3 D9 ⊢
          refine ⟨_, rfl, _, rfl, _, _, _, _, rfl, rfl, .inl (.inl D9.hp), rfl, _, rfl, _, rfl, b, bx, rfl, .inl (.inl D9.hb), fun u4 nu4 => ?_⟩
          have e4 : cutV bx (some (P' : Int)) none = bx.drop P' := cut_drop Pl
          have c4 := same_new (o := .lst (cutV bx (some (P' : Int)) none)) nu4
          have h4 : (upd G3 u4 (.lst (cutV bx (some (P' : Int)) none))) u4 = some (.lst (cutV bx (some (P' : Int)) none)) := upd_same
          have R4 := R3.new (o := .lst (cutV bx (some (P' : Int)) none)) nu4
          have h3 := c4 _ _ h3
          rw [e4] at c4 h3 h4 R4 ⊢
          generalize upd G3 u4 (.lst (bx.drop P')) = G4 at c4 h3 h4 R4 ⊢
          refine ⟨u3, u4, _, _, rfl, rfl, h3, h4, Nat.le_trans (show (bx.take P' ++ [v]).length + (bx.drop P').length ≤ 401 by rw [List.length_append, List.length_take, List.length_drop]; show min P' _ + 1 + _ ≤ 401; have := D.lb; omega) (by decide), fun u5 nu5 => ?_⟩
          have c5 := same_new (o := .lst (bx.take P' ++ [v] ++ bx.drop P')) nu5
          have h5 : (upd G4 u5 (.lst (bx.take P' ++ [v] ++ bx.drop P'))) u5 = some (.lst (bx.take P' ++ [v] ++ bx.drop P')) := upd_same
          have R5 := R4.new (o := .lst (bx.take P' ++ [v] ++ bx.drop P')) nu5
          have x5 := R4.ne nu5
          have c25 := ((c2.trans c3).trans c4)
          have n5H := c25.free nu5
          generalize upd G4 u5 (.lst (bx.take P' ++ [v] ++ bx.drop P')) = G5 at c5 h5 R5 ⊢
          have c75 := c25.trans c5
          refine ⟨fun σ' H' => ∃ tl : List V, σ' = [some (.ref a), some (.ref p), some (.ref s), some (.int ((3 : Nat) : Int)), some (.str (Str.ofString "begins")), some (.int (P' : Nat)), some (.int dr), none, some (.ref u5)] ∧ But a H7 H' ∧ Sto H' a ca ∧ H' u5 = some (.lst (bx.take P' ++ [v] ++ bx.drop P' ++ tl)) ∧ tl.length ≤ 1 ∧ ∀ y ∈ tl, D2 a s 3 H' y, ?_, ?_⟩
          · refine ⟨_, rfl, a, ca, 2, rfl, R5, by decide, fun d' G6 _ _ B6' R6 => ⟨rfl, _, rfl, ite2 (fun _ => ?_) (fun _ => ?_)⟩⟩
            · have h6 := B6' _ _ x5.1 h5
              have D10 := D7.but ((But.same (a := a) c75).trans B6') S7
              refine ⟨_, rfl, .inl ⟨rfl, _, .inl (.inl h6)⟩, _, rfl, _, rfl, _, rfl, a, ca, p, ((3 : Nat) : Int), r, z, n, _, rfl, R6, D10.pa, D10.hp, ar, az, g.n0, n64, fun v2 G7 _ _ dv2 B7' R7 => ?_⟩
              have h7 := B7' _ _ x5.1 h6
              have B77 := ((But.same (a := a) c75).trans B6').trans B7'
              have hs6 := B6' _ _ xs.1 (c75 _ _ hs7)
              have us : u5 ≠ s := fun e => by rw [e, hs7] at n5H; cases n5H
              have kp := But.put (o := .lst (bx.take P' ++ [v] ++ bx.drop P' ++ [v2])) h7
              have dv2' : D2 a s 3 G7 v2 := ⟨(dv2 a R6.some.1).le (by decide), (dv2 s (by rw [hs6]; exact fun e => by cases e)).le (by decide)⟩
              have du2 : Deep u5 3 G7 v2 := (dv2 u5 (by rw [h6]; exact fun e => by cases e)).le (by decide)
              refine ⟨u5, _, _, rfl, rfl, h7, ?_, [v2], rfl, But.grown (.refl H7) n5H B77 h7, R7.put x5, upd_same, Nat.le_refl _, fun y m => ?_⟩
              · rw [List.length_append, List.length_append, List.length_take, List.length_drop]
                exact Nat.lt_of_le_of_lt (show min P' _ + 1 + _ ≤ 401 by have := D.lb; omega) (by decide)
              · rw [List.mem_singleton.mp m]
                exact ⟨dv2'.1.put kp du2, dv2'.2.put kp du2⟩
            · exact ⟨[], rfl, (But.same (a := a) c75).trans B6', R6, by rw [List.append_nil]; exact B6' _ _ x5.1 h5, Nat.zero_le _, fun y m => absurd m List.not_mem_nil⟩
          rintro σ' G7 ⟨tl, rfl, B77, R7, h7, ltl, dtl⟩
          refine ⟨_, rfl, _, rfl, 400, rfl, u5, _, rfl, .inl (.inl h7), fun u6 nu6 => ?_⟩
          have c6 := same_new (o := .lst (cutV (bx.take P' ++ [v] ++ bx.drop P' ++ tl) none (some 400))) nu6
          have h6 : (upd G7 u6 (.lst (cutV (bx.take P' ++ [v] ++ bx.drop P' ++ tl) none (some 400)))) u6 = some (.lst (cutV (bx.take P' ++ [v] ++ bx.drop P' ++ tl) none (some 400))) := upd_same
          have R6 := R7.new (o := .lst (cutV (bx.take P' ++ [v] ++ bx.drop P' ++ tl) none (some 400))) nu6
          have ec : cutV (bx.take P' ++ [v] ++ bx.drop P' ++ tl) none (some 400) = (bx.take P' ++ [v] ++ bx.drop P' ++ tl).take 400 := cut_take_all (k := 400)
          rw [ec] at h6 c6 R6 ⊢
          have x6 := (R7.ne nu6).1
          obtain ⟨sp1, sp2⟩ := spot_at (xs := bx) (tl := tl) (v := v) Pl (show P' < 400 by omega)
          have spm := spot_mem (xs := bx) (tl := tl) (v := v) (P := P')
          have lys : ((bx.take P' ++ [v] ++ bx.drop P' ++ tl).take 400).length ≤ 400 := by rw [List.length_take]; exact Nat.min_le_left _ _
          generalize (bx.take P' ++ [v] ++ bx.drop P' ++ tl).take 400 = ys at c6 h6 R6 sp1 sp2 spm lys ⊢
          generalize upd G7 u6 (.lst ys) = G8 at c6 h6 R6 ⊢
          refine ⟨a, ca, u6, _, rfl, R6, x6, h6, by omega, fun wv H9 wa w0 hw B9 S9 => ?_⟩
          have B89 := (But.same (a := a) c6).trans B9
          have B79 := B77.trans B89
          have B59 := BH7.trans B79
          have hs9 := B79 _ _ xs.1 hs7
          have D9' := D7.but B79 S7
          have ws : wv ≠ s := fun e => by rw [e, c6 _ _ (B77 _ _ xs.1 hs7)] at w0; cases w0
          have each : ∀ y ∈ ys, D2 a s 3 H9 y := fun y m => by
            rcases spm y m with m | m | m
            · rw [m]; exact dv'.but B79
            · exact (ob y m).but B59
            · exact (dtl y m).but B89
          have drow : D2 a s 6 H9 (.ref wv) := (D2.row (n := 3) hw wa ws (by omega) each).le (by decide)
          have en9 := D9'.eb
          refine ⟨_, rfl, _, rfl, s, _, _, 3, rfl, rfl, hs9, rfl, _, rfl, _, rfl, by show 3 ≤ sizeLine; decide, fun d nd => ?_⟩
          have fl : FltAt K (fun H v => PairV H z n v) H9 (.ref wv) (.at P') := ⟨wv, ys, v, rfl, hw.elim .inl (fun h => .inr (.inl h)), lys, sp1, fun o => ok2 (by decide) (((pairV_put (s := a) B79 3 dv'.1)).mp o), fun j y hj hy => ⟨fun lt => by
            obtain ⟨e', t', he', rfl, ht'⟩ := en9.get (sp2 j y lt hy)
            exact (by obtain ⟨g1, g2, g3, g4⟩ := g.gb e' (List.mem_of_getElem? he'); exact ⟨t', e'.1, e'.2, rfl, ht', g1, g2, g3, g4⟩), (each y (List.mem_of_getElem? hy)).1.shal, (each y (List.mem_of_getElem? hy)).1.shal_in⟩⟩
          exact ⟨(.str r), (.str z), (.int n), (.ref wv), (.ref c), (.ref e), (.begins (.at P')), d, _, rfl, rfl, Mid.mk' (K := K) (rv := .str r) (zv := .str z) (nv := .int n) (bv := .ref wv) (av := .ref c) (ev := .ref e) (f := (.begins (.at P'))) ns xs (BH5.trans B59) S9 hs9 ⟨r, z, n, ⟨rfl, rfl, rfl, ar, az, g.n0, n64⟩, fl⟩ (o1.but B59) (o2.but B59) (o3.but B59) drow (o5.but B59) (o6.but B59) nd⟩
      · rintro σ' H6 ⟨rv, zv, nv, bv, av, ev, f, d, y, rfl, hpos, M⟩
        refine ⟨fun σ' H' => ∃ (rv zv nv bv av ev : V) (f : MF) (d : Addr) (y : Option V), σ' = [some (.ref a), some (.ref p), some (.ref s), some (.int ((3 : Nat) : Int)), some (.str (Str.ofString "begins")), some (.int (P' : Nat)), some (.int dr), some (.ref d), y] ∧ Mid K a ca s H H' d rv zv nv bv av ev f, ?_, ?_⟩
        · refine ⟨_, rfl, _, _, rfl, rfl, _, rfl, iteC (decide_eq_true (by decide)) ⟨_, rfl, a, ca, 2, rfl, M.st, by decide, fun d2 H7 _ _ B7 S7 => ⟨rfl, _, rfl, ite2 (fun _ => ?_) (fun _ => ?_)⟩⟩⟩
          · refine ⟨_, rfl, _, rfl, _, _, rfl, rfl, _, rfl, _, rfl, _, _, rfl, rfl, a, ca, 5 - ((3 : Nat) : Int), rfl, S7, by decide, fun m H8 m0 m1 B8 S8 => ?_⟩
            obtain ⟨m', rfl⟩ := Int.eq_ofNat_of_zero_le m0
            have m4 : 3 + 1 + m' < 6 := by
              have : ((m' : Nat) : Int) < 5 - ((3 : Nat) : Int) ∨ ((m' : Nat) : Int) = 0 := m1
              omega
            have ej : ((3 : Nat) : Int) + 1 + ((m' : Nat) : Int) = ((3 + 1 + m' : Nat) : Int) := by omega
            have ix : ∀ j : Nat, j < 6 → ixN 6 (j : Int) = some j := by decide
            have M8 := (M.but B7 S7 xs.1).but B8 S8 xs.1
            obtain ⟨zv', nv', bv', av', ev', e1, M9⟩ := tail (3 + 1 + m') [] H8 d rv zv nv bv av ev f M8 (by rw [hpos]; omega) m4 _ rfl
            refine ⟨_, _, rfl, rfl, s, _, _, 3 + 1 + m', rfl, rfl, M8.row, ?_, rv, zv', nv', bv', av', ev', f, d, y, rfl, M9⟩
            show ixN 6 (((3 : Nat) : Int) + 1 + ((m' : Nat) : Int)) = _
            rw [ej]
            exact ix _ m4
          · exact ⟨rv, zv, nv, bv, av, ev, f, d, y, rfl, M.but B7 S7 xs.1⟩
        · rintro σ' H7 ⟨rv, zv, nv, bv, av, ev, f, d, y, rfl, M⟩
          exact ⟨_, rfl, _, rfl, by show 2 ≤ sizeLine; decide, fun t nt => fin H7 d rv zv nv bv av ev f M t nt⟩
    · refine ⟨by show 6 ≤ sizeLine; decide, fun nm nnm => ?_⟩
      have kn := same_new (o := .lst [V.str (Str.ofString "read"), .str (Str.ofString "write"), .str (Str.ofString "size"), .str (Str.ofString "begins"), .str (Str.ofString "arcs"), .str (Str.ofString "ends")]) nnm
      have hn : (upd H2 nm (.lst [V.str (Str.ofString "read"), .str (Str.ofString "write"), .str (Str.ofString "size"), .str (Str.ofString "begins"), .str (Str.ofString "arcs"), .str (Str.ofString "ends")])) nm = some (.lst [V.str (Str.ofString "read"), .str (Str.ofString "write"), .str (Str.ofString "size"), .str (Str.ofString "begins"), .str (Str.ofString "arcs"), .str (Str.ofString "ends")]) := upd_same
      have S3 := S2.new (o := .lst [V.str (Str.ofString "read"), .str (Str.ofString "write"), .str (Str.ofString "size"), .str (Str.ofString "begins"), .str (Str.ofString "arcs"), .str (Str.ofString "ends")]) nnm
      generalize upd H2 nm (.lst [V.str (Str.ofString "read"), .str (Str.ofString "write"), .str (Str.ofString "size"), .str (Str.ofString "begins"), .str (Str.ofString "arcs"), .str (Str.ofString "ends")]) = H3 at kn hn S3 ⊢
      have B3 := B2.trans (But.same kn)
      have D3 := D1.but B3 S1
      refine ⟨_, rfl, _, _, _, _, rfl, rfl, .inl (.inl hn), rfl, ?_⟩
      refine ⟨_, rfl, _, rfl, _, rfl, 3, ((4 : Nat) : Int), rfl, _, _, _, _, rfl, rfl, .inl (.inl D3.hp), rfl, c, ax, rfl, .inl (.inl (.inl D3.hc)), _, _, rfl, a, ca, 0, _, rfl, S3, ?_, fun pl H4 pl0 pl1 B4 S4 => ?_⟩
      · have := D.la
        show (if (399 : Int) < ((ax.length : Nat) : Int) then (399 : Int) else ((ax.length : Nat) : Int)) - 0 < 1000000000
        split <;> omega
      have plb : pl ≤ 399 ∧ pl ≤ (ax.length : Int) := by
        have := D.la
        revert pl1
        show (pl ≤ (if (399 : Int) < ((ax.length : Nat) : Int) then (399 : Int) else ((ax.length : Nat) : Int)) ∨ pl = 0) → _
        intro h
        rcases h with h | h
        · split at h <;> omega
        · omega
      obtain ⟨P', rfl⟩ := Int.eq_ofNat_of_zero_le pl0
      refine ⟨_, rfl, a, ca, 6, rfl, S4, by decide, fun dr H5 dr0 dr6 B5 S5 => ?_⟩
      have B15 := (B3.trans B4).trans B5
      have BH5 := (But.same (a := a) k1).trans B15
      have D5 := D1.but B15 S1
      have hs5 := B15 _ _ xs.1 hs
      have hp5 := D5.hp
      have old : ∀ {x : Addr} {o : HO}, H1 x = some o → x ≠ a → H5 x ≠ none := fun {x o} h ne => fun z => by
        by_cases t : ∃ ps, o = .tbl ps
        · obtain ⟨ps, rfl⟩ := t
          obtain ⟨qs, h2⟩ := B15.tab _ _ h
          rw [z] at h2
          cases h2
        · have := B15.old _ _ ne h (fun ps e => t ⟨ps, e⟩)
          rw [z] at this
          cases this
      have s5n : H5 s ≠ none := fun z => by rw [z] at hs5; cases hs5
      have a5n := S5.some.1
      obtain ⟨o1, o2, o3, ob, oc, oe, o4, o5, o6⟩ := od H5 B15
      refine ⟨fun σ' H' => ∃ (rv zv nv bv av ev : V) (f : MF) (d : Addr) (y : Option V), σ' = [some (.ref a), some (.ref p), some (.ref s), some (.int ((4 : Nat) : Int)), some (.str (Str.ofString "arcs")), some (.int (P' : Nat)), some (.int dr), some (.ref d), y] ∧ f.pos = 4 ∧ Mid K a ca s H H' d rv zv nv bv av ev f, ?_, ?_⟩
      · refine ⟨_, rfl, _, _, rfl, rfl, _, rfl, iteN (decide_eq_false (by decide)) ?_⟩
        refine ⟨_, rfl, rfl, _, rfl, iteN (decide_eq_false (by intro z; injection z with z; revert z; show ¬ ((4 : Nat) : Int) = 2; omega)) ?_⟩
        refine ⟨_, rfl, rfl, _, rfl, ite2 (fun _ => ?_) (fun _ => ?_)⟩
        · refine ⟨_, rfl, by show 6 ≤ sizeLine; decide, fun q6 nq => ⟨a, ca, S5.new nq, .inr ⟨q6, _, rfl, (S5.ne nq).1, upd_same, by show 0 < 6; decide, by show 6 ≤ 1000000; decide, fun v H6 mv B6' S6 => ?_⟩⟩⟩
          have B6 := (But.new (a := a) (o := .lst [V.non, .bl true, .int 0, .int 7, .str (Str.ofString ""), .str (Str.ofString "ab")]) nq).trans B6'
          have all : ∀ x ∈ ([V.non, .bl true, .int 0, .int 7, .str (Str.ofString ""), .str (Str.ofString "ab")] : List V), plainV x = true ∧ D2 a s 6 H6 x := List.forall_mem_cons.mpr ⟨⟨rfl, D2.non⟩, List.forall_mem_cons.mpr ⟨⟨rfl, deep_bl, deep_bl⟩, List.forall_mem_cons.mpr ⟨⟨rfl, D2.int (small_pow (by decide))⟩, List.forall_mem_cons.mpr ⟨⟨rfl, D2.int (small_pow (by decide))⟩, List.forall_mem_cons.mpr ⟨⟨rfl, D2.str (by decide +kernel)⟩, List.forall_mem_cons.mpr ⟨⟨rfl, D2.str (by decide +kernel)⟩, fun x m => absurd m List.not_mem_nil⟩⟩⟩⟩⟩⟩
          obtain ⟨pv, dv'⟩ := all v mv
          have hs6 := B6 _ _ xs.1 hs5
          have D6 := D5.but B6 S5
          refine ⟨_, rfl, _, rfl, s, _, _, 4, rfl, rfl, hs6, rfl, _, rfl, by show 3 ≤ sizeLine; decide, fun d nd => ?_⟩
          exact ⟨(.str r), (.str z), (.int n), (.ref b), (v), (.ref e), .arcs .shape, d, _, rfl, rfl, Mid.mk' (K := K) (rv := .str r) (zv := .str z) (nv := .int n) (bv := .ref b) (av := v) (ev := .ref e) (f := .arcs .shape) ns xs (BH5.trans B6) S6 hs6 ⟨r, z, n, b, be, ⟨rfl, rfl, rfl, ar, az, g.n0, n64⟩, rfl, ⟨bx, .inl D6.hb, D6.lb, D6.eb⟩, g.gb, pv⟩ (o1.but B6) (o2.but B6) (o3.but B6) (o4.but B6) dv' (o6.but B6) nd⟩
        refine ⟨_, rfl, rfl, _, rfl, ite2 (fun _ => ?_) (fun _ => ?_)⟩
        · refine ⟨_, rfl, _, rfl, _, rfl, _, rfl, a, ca, p, ((4 : Nat) : Int), r, z, n, _, rfl, S5, D5.pa, hp5, ar, az, g.n0, n64, fun v H6 ok1 ok2 dv B6 S6 => ?_⟩
          have D6 := D5.but B6 S5
          have hs6 := B6 _ _ xs.1 hs5
          have dv' : D2 a s 3 H6 v := ⟨(dv a a5n).le (by decide), (dv s s5n).le (by decide)⟩
          refine ⟨by show 1 ≤ sizeLine; decide, fun u1 nu1 => ?_⟩
          have c1 := same_new (o := .lst [v]) nu1
          have h1 : (upd H6 u1 (.lst [v])) u1 = some (.lst [v]) := upd_same
          have R1 := S6.new (o := .lst [v]) nu1
          have D7 := D6.same c1
          generalize upd H6 u1 (.lst [v]) = G1 at c1 h1 R1 D7 ⊢
          refine ⟨_, rfl, _, rfl, _, _, _, _, rfl, rfl, .inl (.inl D7.hp), rfl, u1, c, _, _, rfl, rfl, h1, D7.hc, Nat.le_trans (show 1 + ax.length ≤ 401 by have := D.la; omega) (by decide), fun u2 nu2 => ?_⟩
          have c2 := same_new (o := .lst ([v] ++ ax)) nu2
          have h2 : (upd G1 u2 (.lst ([v] ++ ax))) u2 = some (.lst ([v] ++ ax)) := upd_same
          have R2 := R1.new (o := .lst ([v] ++ ax)) nu2
          have D8 := D7.same c2
          generalize upd G1 u2 (.lst ([v] ++ ax)) = G2 at c2 h2 R2 D8 ⊢
          refine ⟨_, rfl, _, _, _, _, rfl, rfl, .inl (.inl D8.hp), rfl, by show 1 ≤ sizeLine; decide, fun u3 nu3 => ?_⟩
          have c3 := same_new (o := .lst [.str z]) nu3
          have h3 : (upd G2 u3 (.lst [.str z])) u3 = some (.lst [.str z]) := upd_same
          have R3 := R2.new (o := .lst [.str z]) nu3
          have h2 := c3 _ _ h2
          generalize upd G2 u3 (.lst [.str z]) = G3 at c3 h3 h2 R3 ⊢
          refine ⟨u3, 400, _, rfl, rfl, h3, by decide, by decide, by show 1 * 400 ≤ sizeLine; decide, fun u4 nu4 => ?_⟩
          have c4 := same_new (o := .lst (List.replicate (400 : Int).toNat [.str z]).flatten) nu4
          have h4 : (upd G3 u4 (.lst (List.replicate (400 : Int).toNat [.str z]).flatten)) u4 = some (.lst (List.replicate (400 : Int).toNat [.str z]).flatten) := upd_same
          have R4 := R3.new (o := .lst (List.replicate (400 : Int).toNat [.str z]).flatten) nu4
          have h2 := c4 _ _ h2
          have lrep : (List.replicate (400 : Int).toNat [V.str z]).flatten.length = 400 := by rw [List.flatten_replicate_singleton, List.length_replicate]; rfl
          have mrep : ∀ y ∈ (List.replicate (400 : Int).toNat [V.str z]).flatten, y = .str z := fun y m => by
            rw [List.flatten_replicate_singleton] at m
            exact List.eq_of_mem_replicate m
          generalize (List.replicate (400 : Int).toNat [V.str z]).flatten = zz at h2 h4 R4 c4 lrep mrep ⊢
          generalize upd G3 u4 (.lst zz) = G4 at c4 h4 h2 R4 ⊢
          refine ⟨u2, u4, _, _, rfl, rfl, h2, h4, Nat.le_trans (show ([v] ++ ax).length + zz.length ≤ 801 by rw [List.length_append, lrep]; show 1 + ax.length + 400 ≤ 801; have := D.la; omega) (by decide), fun u5 nu5 => ?_⟩
          have c5 := same_new (o := .lst ([v] ++ ax ++ zz)) nu5
          have h5 : (upd G4 u5 (.lst ([v] ++ ax ++ zz))) u5 = some (.lst ([v] ++ ax ++ zz)) := upd_same
          have R5 := R4.new (o := .lst ([v] ++ ax ++ zz)) nu5
          generalize upd G4 u5 (.lst ([v] ++ ax ++ zz)) = G5 at c5 h5 R5 ⊢
          refine ⟨401, rfl, u5, _, rfl, .inl (.inl h5), fun u6 nu6 => ?_⟩
          have c6 := same_new (o := .lst (cutV ([v] ++ ax ++ zz) none (some 401))) nu6
          have h6 : (upd G5 u6 (.lst (cutV ([v] ++ ax ++ zz) none (some 401)))) u6 = some (.lst (cutV ([v] ++ ax ++ zz) none (some 401))) := upd_same
          have R6 := R5.new (o := .lst (cutV ([v] ++ ax ++ zz) none (some 401))) nu6
          have ec : cutV ([v] ++ ax ++ zz) none (some 401) = ([v] ++ ax ++ zz).take 401 := cut_take_all (k := 401)
          rw [ec] at h6 c6 R6 ⊢
          have x6 := (R5.ne nu6).1
          generalize upd G5 u6 (.lst (([v] ++ ax ++ zz).take 401)) = G6 at c6 h6 R6 ⊢
          have ck := ((((c1.trans c2).trans c3).trans c4).trans c5).trans c6
          have lk : (([v] ++ ax ++ zz).take 401).length = 401 := by
            rw [List.length_take, List.length_append, List.length_append, lrep]
            show min 401 (1 + ax.length + 400) = 401
            omega
          refine ⟨a, ca, u6, _, rfl, R6, x6, h6, by omega, fun wv H9 wa w0 hw B9 S9 => ?_⟩
          have B69 := (But.same (a := a) ck).trans B9
          have B59 := B6.trans B69
          have hs9 := B69 _ _ xs.1 hs6
          have D9 := D6.but B69 S6
          have ws : wv ≠ s := fun e => by rw [e, ck _ _ hs6] at w0; cases w0
          have drow : D2 a s 6 H9 (.ref wv) := (D2.row (n := 3) hw wa ws (by omega) fun y m => by
            rcases List.mem_append.mp (List.mem_of_mem_take m) with m | m
            · rcases List.mem_append.mp m with m | m
              · rw [List.mem_singleton.mp m]; exact dv'.but B69
              · exact (oc y m).but B59
            · rw [mrep y m]; exact D2.str (by omega)).le (by decide)
          refine ⟨_, rfl, _, rfl, s, _, _, 4, rfl, rfl, hs9, rfl, _, rfl, by show 3 ≤ sizeLine; decide, fun d nd => ?_⟩
          exact ⟨(.str r), (.str z), (.int n), (.ref b), (.ref wv), (.ref e), .arcs .large, d, _, rfl, rfl, Mid.mk' (K := K) (rv := .str r) (zv := .str z) (nv := .int n) (bv := .ref b) (av := .ref wv) (ev := .ref e) (f := .arcs .large) ns xs (BH5.trans B59) S9 hs9 ⟨r, z, n, b, be, ⟨rfl, rfl, rfl, ar, az, g.n0, n64⟩, rfl, ⟨bx, .inl D9.hb, D9.lb, D9.eb⟩, g.gb, ⟨wv, _, rfl, hw.elim .inl (fun h => .inr (.inl h)), by omega, by omega⟩⟩ (o1.but B59) (o2.but B59) (o3.but B59) (o4.but B59) drow (o6.but B59) nd⟩
        · have hrow5 := D5.hc
          refine ⟨_, rfl, _, rfl, _, _, _, _, rfl, rfl, .inl (.inl hp5), rfl, _, rfl, _, rfl, c, ax, rfl, .inl (.inl hrow5), fun u1 nu1 => ?_⟩
          have Pl : P' ≤ ax.length := by omega
          have e1 : cutV ax none (some (P' : Int)) = ax.take P' := cut_take_all
          have c1 := same_new (o := .lst (cutV ax none (some (P' : Int)))) nu1
          have h1 : (upd H5 u1 (.lst (cutV ax none (some (P' : Int))))) u1 = some (.lst (cutV ax none (some (P' : Int)))) := upd_same
          have R1 := S5.new (o := .lst (cutV ax none (some (P' : Int)))) nu1
          rw [e1] at c1 h1 R1 ⊢
          have D6 := D5.same c1
          have x1 := (S5.ne nu1).1
          generalize upd H5 u1 (.lst (ax.take P')) = G1 at c1 h1 R1 D6 ⊢
          have olds : ∀ c, H5 c ≠ none → G1 c ≠ none := fun c h z => h (c1.free z)
          refine ⟨_, rfl, _, rfl, _, rfl, a, ca, p, ((4 : Nat) : Int), r, z, n, _, rfl, R1, D6.pa, D6.hp, ar, az, g.n0, n64, fun v H7 ok1 ok2 dv B7 S7 => ?_⟩
          have BH7 := (But.same (a := a) c1).trans B7
          have D7 := D6.but B7 R1
          have hs7 := BH7 _ _ xs.1 hs5
          have dv' : D2 a s 3 H7 v := ⟨(dv a (olds a a5n)).le (by decide), (dv s (olds s s5n)).le (by decide)⟩
          have h1 := B7 _ _ x1 h1
          refine ⟨by show 1 ≤ sizeLine; decide, fun u2 nu2 => ?_⟩
          have c2 := same_new (o := .lst [v]) nu2
          have h2 : (upd H7 u2 (.lst [v])) u2 = some (.lst [v]) := upd_same
          have R2 := S7.new (o := .lst [v]) nu2
          have h1 := c2 _ _ h1
          have D8 := D7.same c2
          generalize upd H7 u2 (.lst [v]) = G2 at c2 h1 h2 R2 D8 ⊢
          refine ⟨u1, u2, _, _, rfl, rfl, h1, h2, Nat.le_trans (show (ax.take P').length + 1 ≤ 401 by rw [List.length_take]; have := D.la; omega) (by decide), fun u3 nu3 => ?_⟩
          have c3 := same_new (o := .lst (ax.take P' ++ [v])) nu3
          have h3 : (upd G2 u3 (.lst (ax.take P' ++ [v]))) u3 = some (.lst (ax.take P' ++ [v])) := upd_same
          have R3 := R2.new (o := .lst (ax.take P' ++ [v])) nu3
          have D9 := D8.same c3
          generalize upd G2 u3 (.lst (ax.take P' ++ [v])) = G3 at c3 h3 R3 D9 ⊢
          refine ⟨_, rfl, _, rfl, _, _, _, _, rfl, rfl, .inl (.inl D9.hp), rfl, _, rfl, _, rfl, c, ax, rfl, .inl (.inl D9.hc), fun u4 nu4 => ?_⟩
          have e4 : cutV ax (some (P' : Int)) none = ax.drop P' := cut_drop Pl
          have c4 := same_new (o := .lst (cutV ax (some (P' : Int)) none)) nu4
          have h4 : (upd G3 u4 (.lst (cutV ax (some (P' : Int)) none))) u4 = some (.lst (cutV ax (some (P' : Int)) none)) := upd_same
          have R4 := R3.new (o := .lst (cutV ax (some (P' : Int)) none)) nu4
          have h3 := c4 _ _ h3
          rw [e4] at c4 h3 h4 R4 ⊢
          generalize upd G3 u4 (.lst (ax.drop P')) = G4 at c4 h3 h4 R4 ⊢
          refine ⟨u3, u4, _, _, rfl, rfl, h3, h4, Nat.le_trans (show (ax.take P' ++ [v]).length + (ax.drop P').length ≤ 401 by rw [List.length_append, List.length_take, List.length_drop]; show min P' _ + 1 + _ ≤ 401; have := D.la; omega) (by decide), fun u5 nu5 => ?_⟩
          have c5 := same_new (o := .lst (ax.take P' ++ [v] ++ ax.drop P')) nu5
          have h5 : (upd G4 u5 (.lst (ax.take P' ++ [v] ++ ax.drop P'))) u5 = some (.lst (ax.take P' ++ [v] ++ ax.drop P')) := upd_same
          have R5 := R4.new (o := .lst (ax.take P' ++ [v] ++ ax.drop P')) nu5
          have x5 := R4.ne nu5
          have c25 := ((c2.trans c3).trans c4)
          have n5H := c25.free nu5
          generalize upd G4 u5 (.lst (ax.take P' ++ [v] ++ ax.drop P')) = G5 at c5 h5 R5 ⊢
          have c75 := c25.trans c5
          refine ⟨fun σ' H' => ∃ tl : List V, σ' = [some (.ref a), some (.ref p), some (.ref s), some (.int ((4 : Nat) : Int)), some (.str (Str.ofString "arcs")), some (.int (P' : Nat)), some (.int dr), none, some (.ref u5)] ∧ But a H7 H' ∧ Sto H' a ca ∧ H' u5 = some (.lst (ax.take P' ++ [v] ++ ax.drop P' ++ tl)) ∧ tl.length ≤ 1 ∧ ∀ y ∈ tl, D2 a s 3 H' y, ?_, ?_⟩
          · refine ⟨_, rfl, a, ca, 2, rfl, R5, by decide, fun d' G6 _ _ B6' R6 => ⟨rfl, _, rfl, ite2 (fun _ => ?_) (fun _ => ?_)⟩⟩
            · have h6 := B6' _ _ x5.1 h5
              have D10 := D7.but ((But.same (a := a) c75).trans B6') S7
              refine ⟨_, rfl, .inl ⟨rfl, _, .inl (.inl h6)⟩, _, rfl, _, rfl, _, rfl, a, ca, p, ((4 : Nat) : Int), r, z, n, _, rfl, R6, D10.pa, D10.hp, ar, az, g.n0, n64, fun v2 G7 _ _ dv2 B7' R7 => ?_⟩
              have h7 := B7' _ _ x5.1 h6
              have B77 := ((But.same (a := a) c75).trans B6').trans B7'
              have hs6 := B6' _ _ xs.1 (c75 _ _ hs7)
              have us : u5 ≠ s := fun e => by rw [e, hs7] at n5H; cases n5H
              have kp := But.put (o := .lst (ax.take P' ++ [v] ++ ax.drop P' ++ [v2])) h7
              have dv2' : D2 a s 3 G7 v2 := ⟨(dv2 a R6.some.1).le (by decide), (dv2 s (by rw [hs6]; exact fun e => by cases e)).le (by decide)⟩
              have du2 : Deep u5 3 G7 v2 := (dv2 u5 (by rw [h6]; exact fun e => by cases e)).le (by decide)
              refine ⟨u5, _, _, rfl, rfl, h7, ?_, [v2], rfl, But.grown (.refl H7) n5H B77 h7, R7.put x5, upd_same, Nat.le_refl _, fun y m => ?_⟩
              · rw [List.length_append, List.length_append, List.length_take, List.length_drop]
                exact Nat.lt_of_le_of_lt (show min P' _ + 1 + _ ≤ 401 by have := D.la; omega) (by decide)
              · rw [List.mem_singleton.mp m]
                exact ⟨dv2'.1.put kp du2, dv2'.2.put kp du2⟩
            · exact ⟨[], rfl, (But.same (a := a) c75).trans B6', R6, by rw [List.append_nil]; exact B6' _ _ x5.1 h5, Nat.zero_le _, fun y m => absurd m List.not_mem_nil⟩
          rintro σ' G7 ⟨tl, rfl, B77, R7, h7, ltl, dtl⟩
          refine ⟨_, rfl, _, rfl, 400, rfl, u5, _, rfl, .inl (.inl h7), fun u6 nu6 => ?_⟩
          have c6 := same_new (o := .lst (cutV (ax.take P' ++ [v] ++ ax.drop P' ++ tl) none (some 400))) nu6
          have h6 : (upd G7 u6 (.lst (cutV (ax.take P' ++ [v] ++ ax.drop P' ++ tl) none (some 400)))) u6 = some (.lst (cutV (ax.take P' ++ [v] ++ ax.drop P' ++ tl) none (some 400))) := upd_same
          have R6 := R7.new (o := .lst (cutV (ax.take P' ++ [v] ++ ax.drop P' ++ tl) none (some 400))) nu6
          have ec : cutV (ax.take P' ++ [v] ++ ax.drop P' ++ tl) none (some 400) = (ax.take P' ++ [v] ++ ax.drop P' ++ tl).take 400 := cut_take_all (k := 400)
          rw [ec] at h6 c6 R6 ⊢
          have x6 := (R7.ne nu6).1
          obtain ⟨sp1, sp2⟩ := spot_at (xs := ax) (tl := tl) (v := v) Pl (show P' < 400 by omega)
          have spm := spot_mem (xs := ax) (tl := tl) (v := v) (P := P')
          have lys : ((ax.take P' ++ [v] ++ ax.drop P' ++ tl).take 400).length ≤ 400 := by rw [List.length_take]; exact Nat.min_le_left _ _
          generalize (ax.take P' ++ [v] ++ ax.drop P' ++ tl).take 400 = ys at c6 h6 R6 sp1 sp2 spm lys ⊢
          generalize upd G7 u6 (.lst ys) = G8 at c6 h6 R6 ⊢
          refine ⟨a, ca, u6, _, rfl, R6, x6, h6, by omega, fun wv H9 wa w0 hw B9 S9 => ?_⟩
          have B89 := (But.same (a := a) c6).trans B9
          have B79 := B77.trans B89
          have B59 := BH7.trans B79
          have hs9 := B79 _ _ xs.1 hs7
          have D9' := D7.but B79 S7
          have ws : wv ≠ s := fun e => by rw [e, c6 _ _ (B77 _ _ xs.1 hs7)] at w0; cases w0
          have each : ∀ y ∈ ys, D2 a s 3 H9 y := fun y m => by
            rcases spm y m with m | m | m
            · rw [m]; exact dv'.but B79
            · exact (oc y m).but B59
            · exact (dtl y m).but B89
          have drow : D2 a s 6 H9 (.ref wv) := (D2.row (n := 3) hw wa ws (by omega) each).le (by decide)
          have en9 := D9'.ea
          refine ⟨_, rfl, _, rfl, s, _, _, 4, rfl, rfl, hs9, rfl, _, rfl, _, rfl, by show 3 ≤ sizeLine; decide, fun d nd => ?_⟩
          have fl : FltAt K (fun H v => ArcV H r z n v) H9 (.ref wv) (.at P') := ⟨wv, ys, v, rfl, hw.elim .inl (fun h => .inr (.inl h)), lys, sp1, fun o => ok1 rfl (((arcV_put (s := a) B79 3 dv'.1)).mp o), fun j y hj hy => ⟨fun lt => by
            obtain ⟨e', t', he', rfl, ht'⟩ := en9.get (sp2 j y lt hy)
            exact (by obtain ⟨g1, g2, g3, g4, g5, g6, g7, g8⟩ := g.ga e' (List.mem_of_getElem? he'); exact ⟨t', e'.1, e'.2.1, e'.2.2.1, e'.2.2.2, rfl, ht', g1, g2, g3, g4, g5, g6, g7, g8⟩), (each y (List.mem_of_getElem? hy)).1.shal, (each y (List.mem_of_getElem? hy)).1.shal_in⟩⟩
          exact ⟨(.str r), (.str z), (.int n), (.ref b), (.ref wv), (.ref e), (.arcs (.at P')), d, _, rfl, rfl, Mid.mk' (K := K) (rv := .str r) (zv := .str z) (nv := .int n) (bv := .ref b) (av := .ref wv) (ev := .ref e) (f := (.arcs (.at P'))) ns xs (BH5.trans B59) S9 hs9 ⟨r, z, n, b, be, ⟨rfl, rfl, rfl, ar, az, g.n0, n64⟩, rfl, ⟨bx, .inl D9'.hb, D9'.lb, D9'.eb⟩, g.gb, fl⟩ (o1.but B59) (o2.but B59) (o3.but B59) (o4.but B59) drow (o6.but B59) nd⟩
      · rintro σ' H6 ⟨rv, zv, nv, bv, av, ev, f, d, y, rfl, hpos, M⟩
        refine ⟨fun σ' H' => ∃ (rv zv nv bv av ev : V) (f : MF) (d : Addr) (y : Option V), σ' = [some (.ref a), some (.ref p), some (.ref s), some (.int ((4 : Nat) : Int)), some (.str (Str.ofString "arcs")), some (.int (P' : Nat)), some (.int dr), some (.ref d), y] ∧ Mid K a ca s H H' d rv zv nv bv av ev f, ?_, ?_⟩
        · refine ⟨_, rfl, _, _, rfl, rfl, _, rfl, iteC (decide_eq_true (by decide)) ⟨_, rfl, a, ca, 2, rfl, M.st, by decide, fun d2 H7 _ _ B7 S7 => ⟨rfl, _, rfl, ite2 (fun _ => ?_) (fun _ => ?_)⟩⟩⟩
          · refine ⟨_, rfl, _, rfl, _, _, rfl, rfl, _, rfl, _, rfl, _, _, rfl, rfl, a, ca, 5 - ((4 : Nat) : Int), rfl, S7, by decide, fun m H8 m0 m1 B8 S8 => ?_⟩
            obtain ⟨m', rfl⟩ := Int.eq_ofNat_of_zero_le m0
            have m4 : 4 + 1 + m' < 6 := by
              have : ((m' : Nat) : Int) < 5 - ((4 : Nat) : Int) ∨ ((m' : Nat) : Int) = 0 := m1
              omega
            have ej : ((4 : Nat) : Int) + 1 + ((m' : Nat) : Int) = ((4 + 1 + m' : Nat) : Int) := by omega
            have ix : ∀ j : Nat, j < 6 → ixN 6 (j : Int) = some j := by decide
            have M8 := (M.but B7 S7 xs.1).but B8 S8 xs.1
            obtain ⟨zv', nv', bv', av', ev', e1, M9⟩ := tail (4 + 1 + m') [] H8 d rv zv nv bv av ev f M8 (by rw [hpos]; omega) m4 _ rfl
            refine ⟨_, _, rfl, rfl, s, _, _, 4 + 1 + m', rfl, rfl, M8.row, ?_, rv, zv', nv', bv', av', ev', f, d, y, rfl, M9⟩
            show ixN 6 (((4 : Nat) : Int) + 1 + ((m' : Nat) : Int)) = _
            rw [ej]
            exact ix _ m4
          · exact ⟨rv, zv, nv, bv, av, ev, f, d, y, rfl, M.but B7 S7 xs.1⟩
        · rintro σ' H7 ⟨rv, zv, nv, bv, av, ev, f, d, y, rfl, M⟩
          exact ⟨_, rfl, _, rfl, by show 2 ≤ sizeLine; decide, fun t nt => fin H7 d rv zv nv bv av ev f M t nt⟩
    · refine ⟨by show 6 ≤ sizeLine; decide, fun nm nnm => ?_⟩
      have kn := same_new (o := .lst [V.str (Str.ofString "read"), .str (Str.ofString "write"), .str (Str.ofString "size"), .str (Str.ofString "begins"), .str (Str.ofString "arcs"), .str (Str.ofString "ends")]) nnm
      have hn : (upd H2 nm (.lst [V.str (Str.ofString "read"), .str (Str.ofString "write"), .str (Str.ofString "size"), .str (Str.ofString "begins"), .str (Str.ofString "arcs"), .str (Str.ofString "ends")])) nm = some (.lst [V.str (Str.ofString "read"), .str (Str.ofString "write"), .str (Str.ofString "size"), .str (Str.ofString "begins"), .str (Str.ofString "arcs"), .str (Str.ofString "ends")]) := upd_same
      have S3 := S2.new (o := .lst [V.str (Str.ofString "read"), .str (Str.ofString "write"), .str (Str.ofString "size"), .str (Str.ofString "begins"), .str (Str.ofString "arcs"), .str (Str.ofString "ends")]) nnm
      generalize upd H2 nm (.lst [V.str (Str.ofString "read"), .str (Str.ofString "write"), .str (Str.ofString "size"), .str (Str.ofString "begins"), .str (Str.ofString "arcs"), .str (Str.ofString "ends")]) = H3 at kn hn S3 ⊢
      have B3 := B2.trans (But.same kn)
      have D3 := D1.but B3 S1
      refine ⟨_, rfl, _, _, _, _, rfl, rfl, .inl (.inl hn), rfl, ?_⟩
      refine ⟨_, rfl, _, rfl, _, rfl, 3, ((5 : Nat) : Int), rfl, _, _, _, _, rfl, rfl, .inl (.inl D3.hp), rfl, e, ex, rfl, .inl (.inl (.inl D3.he)), _, _, rfl, a, ca, 0, _, rfl, S3, ?_, fun pl H4 pl0 pl1 B4 S4 => ?_⟩
      · have := D.le
        show (if (399 : Int) < ((ex.length : Nat) : Int) then (399 : Int) else ((ex.length : Nat) : Int)) - 0 < 1000000000
        split <;> omega
      have plb : pl ≤ 399 ∧ pl ≤ (ex.length : Int) := by
        have := D.le
        revert pl1
        show (pl ≤ (if (399 : Int) < ((ex.length : Nat) : Int) then (399 : Int) else ((ex.length : Nat) : Int)) ∨ pl = 0) → _
        intro h
        rcases h with h | h
        · split at h <;> omega
        · omega
      obtain ⟨P', rfl⟩ := Int.eq_ofNat_of_zero_le pl0
      refine ⟨_, rfl, a, ca, 6, rfl, S4, by decide, fun dr H5 dr0 dr6 B5 S5 => ?_⟩
      have B15 := (B3.trans B4).trans B5
      have BH5 := (But.same (a := a) k1).trans B15
      have D5 := D1.but B15 S1
      have hs5 := B15 _ _ xs.1 hs
      have hp5 := D5.hp
      have old : ∀ {x : Addr} {o : HO}, H1 x = some o → x ≠ a → H5 x ≠ none := fun {x o} h ne => fun z => by
        by_cases t : ∃ ps, o = .tbl ps
        · obtain ⟨ps, rfl⟩ := t
          obtain ⟨qs, h2⟩ := B15.tab _ _ h
          rw [z] at h2
          cases h2
        · have := B15.old _ _ ne h (fun ps e => t ⟨ps, e⟩)
          rw [z] at this
          cases this
      have s5n : H5 s ≠ none := fun z => by rw [z] at hs5; cases hs5
      have a5n := S5.some.1
      obtain ⟨o1, o2, o3, ob, oc, oe, o4, o5, o6⟩ := od H5 B15
      refine ⟨fun σ' H' => ∃ (rv zv nv bv av ev : V) (f : MF) (d : Addr) (y : Option V), σ' = [some (.ref a), some (.ref p), some (.ref s), some (.int ((5 : Nat) : Int)), some (.str (Str.ofString "ends")), some (.int (P' : Nat)), some (.int dr), some (.ref d), y] ∧ f.pos = 5 ∧ Mid K a ca s H H' d rv zv nv bv av ev f, ?_, ?_⟩
      · refine ⟨_, rfl, _, _, rfl, rfl, _, rfl, iteN (decide_eq_false (by decide)) ?_⟩
        refine ⟨_, rfl, rfl, _, rfl, iteN (decide_eq_false (by intro z; injection z with z; revert z; show ¬ ((5 : Nat) : Int) = 2; omega)) ?_⟩
        refine ⟨_, rfl, rfl, _, rfl, ite2 (fun _ => ?_) (fun _ => ?_)⟩
        · refine ⟨_, rfl, by show 6 ≤ sizeLine; decide, fun q6 nq => ⟨a, ca, S5.new nq, .inr ⟨q6, _, rfl, (S5.ne nq).1, upd_same, by show 0 < 6; decide, by show 6 ≤ 1000000; decide, fun v H6 mv B6' S6 => ?_⟩⟩⟩
          have B6 := (But.new (a := a) (o := .lst [V.non, .bl true, .int 0, .int 7, .str (Str.ofString ""), .str (Str.ofString "ab")]) nq).trans B6'
          have all : ∀ x ∈ ([V.non, .bl true, .int 0, .int 7, .str (Str.ofString ""), .str (Str.ofString "ab")] : List V), plainV x = true ∧ D2 a s 6 H6 x := List.forall_mem_cons.mpr ⟨⟨rfl, D2.non⟩, List.forall_mem_cons.mpr ⟨⟨rfl, deep_bl, deep_bl⟩, List.forall_mem_cons.mpr ⟨⟨rfl, D2.int (small_pow (by decide))⟩, List.forall_mem_cons.mpr ⟨⟨rfl, D2.int (small_pow (by decide))⟩, List.forall_mem_cons.mpr ⟨⟨rfl, D2.str (by decide +kernel)⟩, List.forall_mem_cons.mpr ⟨⟨rfl, D2.str (by decide +kernel)⟩, fun x m => absurd m List.not_mem_nil⟩⟩⟩⟩⟩⟩
          obtain ⟨pv, dv'⟩ := all v mv
          have hs6 := B6 _ _ xs.1 hs5
          have D6 := D5.but B6 S5
          refine ⟨_, rfl, _, rfl, s, _, _, 5, rfl, rfl, hs6, rfl, _, rfl, by show 3 ≤ sizeLine; decide, fun d nd => ?_⟩
          exact ⟨(.str r), (.str z), (.int n), (.ref b), (.ref c), (v), .ends .shape, d, _, rfl, rfl, Mid.mk' (K := K) (rv := .str r) (zv := .str z) (nv := .int n) (bv := .ref b) (av := .ref c) (ev := v) (f := .ends .shape) ns xs (BH5.trans B6) S6 hs6 ⟨r, z, n, b, be, c, ae, ⟨rfl, rfl, rfl, ar, az, g.n0, n64⟩, rfl, ⟨bx, .inl D6.hb, D6.lb, D6.eb⟩, g.gb, rfl, ⟨ax, .inl D6.hc, D6.la, D6.ea⟩, g.ga, pv⟩ (o1.but B6) (o2.but B6) (o3.but B6) (o4.but B6) (o5.but B6) dv' nd⟩
        refine ⟨_, rfl, rfl, _, rfl, ite2 (fun _ => ?_) (fun _ => ?_)⟩
        · refine ⟨_, rfl, _, rfl, _, rfl, _, rfl, a, ca, p, ((5 : Nat) : Int), r, z, n, _, rfl, S5, D5.pa, hp5, ar, az, g.n0, n64, fun v H6 ok1 ok2 dv B6 S6 => ?_⟩
          have D6 := D5.but B6 S5
          have hs6 := B6 _ _ xs.1 hs5
          have dv' : D2 a s 3 H6 v := ⟨(dv a a5n).le (by decide), (dv s s5n).le (by decide)⟩
          refine ⟨by show 1 ≤ sizeLine; decide, fun u1 nu1 => ?_⟩
          have c1 := same_new (o := .lst [v]) nu1
          have h1 : (upd H6 u1 (.lst [v])) u1 = some (.lst [v]) := upd_same
          have R1 := S6.new (o := .lst [v]) nu1
          have D7 := D6.same c1
          generalize upd H6 u1 (.lst [v]) = G1 at c1 h1 R1 D7 ⊢
          refine ⟨_, rfl, _, rfl, _, _, _, _, rfl, rfl, .inl (.inl D7.hp), rfl, u1, e, _, _, rfl, rfl, h1, D7.he, Nat.le_trans (show 1 + ex.length ≤ 401 by have := D.le; omega) (by decide), fun u2 nu2 => ?_⟩
          have c2 := same_new (o := .lst ([v] ++ ex)) nu2
          have h2 : (upd G1 u2 (.lst ([v] ++ ex))) u2 = some (.lst ([v] ++ ex)) := upd_same
          have R2 := R1.new (o := .lst ([v] ++ ex)) nu2
          have D8 := D7.same c2
          generalize upd G1 u2 (.lst ([v] ++ ex)) = G2 at c2 h2 R2 D8 ⊢
          refine ⟨_, rfl, _, _, _, _, rfl, rfl, .inl (.inl D8.hp), rfl, by show 1 ≤ sizeLine; decide, fun u3 nu3 => ?_⟩
          have c3 := same_new (o := .lst [.str z]) nu3
          have h3 : (upd G2 u3 (.lst [.str z])) u3 = some (.lst [.str z]) := upd_same
          have R3 := R2.new (o := .lst [.str z]) nu3
          have h2 := c3 _ _ h2
          generalize upd G2 u3 (.lst [.str z]) = G3 at c3 h3 h2 R3 ⊢
          refine ⟨u3, 400, _, rfl, rfl, h3, by decide, by decide, by show 1 * 400 ≤ sizeLine; decide, fun u4 nu4 => ?_⟩
          have c4 := same_new (o := .lst (List.replicate (400 : Int).toNat [.str z]).flatten) nu4
          have h4 : (upd G3 u4 (.lst (List.replicate (400 : Int).toNat [.str z]).flatten)) u4 = some (.lst (List.replicate (400 : Int).toNat [.str z]).flatten) := upd_same
          have R4 := R3.new (o := .lst (List.replicate (400 : Int).toNat [.str z]).flatten) nu4
          have h2 := c4 _ _ h2
          have lrep : (List.replicate (400 : Int).toNat [V.str z]).flatten.length = 400 := by rw [List.flatten_replicate_singleton, List.length_replicate]; rfl
          have mrep : ∀ y ∈ (List.replicate (400 : Int).toNat [V.str z]).flatten, y = .str z := fun y m => by
            rw [List.flatten_replicate_singleton] at m
            exact List.eq_of_mem_replicate m
          generalize (List.replicate (400 : Int).toNat [V.str z]).flatten = zz at h2 h4 R4 c4 lrep mrep ⊢
          generalize upd G3 u4 (.lst zz) = G4 at c4 h4 h2 R4 ⊢
          refine ⟨u2, u4, _, _, rfl, rfl, h2, h4, Nat.le_trans (show ([v] ++ ex).length + zz.length ≤ 801 by rw [List.length_append, lrep]; show 1 + ex.length + 400 ≤ 801; have := D.le; omega) (by decide), fun u5 nu5 => ?_⟩
          have c5 := same_new (o := .lst ([v] ++ ex ++ zz)) nu5
          have h5 : (upd G4 u5 (.lst ([v] ++ ex ++ zz))) u5 = some (.lst ([v] ++ ex ++ zz)) := upd_same
          have R5 := R4.new (o := .lst ([v] ++ ex ++ zz)) nu5
          generalize upd G4 u5 (.lst ([v] ++ ex ++ zz)) = G5 at c5 h5 R5 ⊢
          refine ⟨401, rfl, u5, _, rfl, .inl (.inl h5), fun u6 nu6 => ?_⟩
          have c6 := same_new (o := .lst (cutV ([v] ++ ex ++ zz) none (some 401))) nu6
          have h6 : (upd G5 u6 (.lst (cutV ([v] ++ ex ++ zz) none (some 401)))) u6 = some (.lst (cutV ([v] ++ ex ++ zz) none (some 401))) := upd_same
          have R6 := R5.new (o := .lst (cutV ([v] ++ ex ++ zz) none (some 401))) nu6
          have ec : cutV ([v] ++ ex ++ zz) none (some 401) = ([v] ++ ex ++ zz).take 401 := cut_take_all (k := 401)
          rw [ec] at h6 c6 R6 ⊢
          have x6 := (R5.ne nu6).1
          generalize upd G5 u6 (.lst (([v] ++ ex ++ zz).take 401)) = G6 at c6 h6 R6 ⊢
          have ck := ((((c1.trans c2).trans c3).trans c4).trans c5).trans c6
          have lk : (([v] ++ ex ++ zz).take 401).length = 401 := by
            rw [List.length_take, List.length_append, List.length_append, lrep]
            show min 401 (1 + ex.length + 400) = 401
            omega
          refine ⟨a, ca, u6, _, rfl, R6, x6, h6, by omega, fun wv H9 wa w0 hw B9 S9 => ?_⟩
          have B69 := (But.same (a := a) ck).trans B9
          have B59 := B6.trans B69
          have hs9 := B69 _ _ xs.1 hs6
          have D9 := D6.but B69 S6
          have ws : wv ≠ s := fun e => by rw [e, ck _ _ hs6] at w0; cases w0
          have drow : D2 a s 6 H9 (.ref wv) := (D2.row (n := 3) hw wa ws (by omega) fun y m => by
            rcases List.mem_append.mp (List.mem_of_mem_take m) with m | m
            · rcases List.mem_append.mp m with m | m
              · rw [List.mem_singleton.mp m]; exact dv'.but B69
              · exact (oe y m).but B59
            · rw [mrep y m]; exact D2.str (by omega)).le (by decide)
          refine ⟨_, rfl, _, rfl, s, _, _, 5, rfl, rfl, hs9, rfl, _, rfl, by show 3 ≤ sizeLine; decide, fun d nd => ?_⟩
          exact ⟨(.str r), (.str z), (.int n), (.ref b), (.ref c), (.ref wv), .ends .large, d, _, rfl, rfl, Mid.mk' (K := K) (rv := .str r) (zv := .str z) (nv := .int n) (bv := .ref b) (av := .ref c) (ev := .ref wv) (f := .ends .large) ns xs (BH5.trans B59) S9 hs9 ⟨r, z, n, b, be, c, ae, ⟨rfl, rfl, rfl, ar, az, g.n0, n64⟩, rfl, ⟨bx, .inl D9.hb, D9.lb, D9.eb⟩, g.gb, rfl, ⟨ax, .inl D9.hc, D9.la, D9.ea⟩, g.ga, ⟨wv, _, rfl, hw.elim .inl (fun h => .inr (.inl h)), by omega, by omega⟩⟩ (o1.but B59) (o2.but B59) (o3.but B59) (o4.but B59) (o5.but B59) drow nd⟩
        · have hrow5 := D5.he
          refine ⟨_, rfl, _, rfl, _, _, _, _, rfl, rfl, .inl (.inl hp5), rfl, _, rfl, _, rfl, e, ex, rfl, .inl (.inl hrow5), fun u1 nu1 => ?_⟩
          have Pl : P' ≤ ex.length := by omega
          have e1 : cutV ex none (some (P' : Int)) = ex.take P' := cut_take_all
          have c1 := same_new (o := .lst (cutV ex none (some (P' : Int)))) nu1
          have h1 : (upd H5 u1 (.lst (cutV ex none (some (P' : Int))))) u1 = some (.lst (cutV ex none (some (P' : Int)))) := upd_same
          have R1 := S5.new (o := .lst (cutV ex none (some (P' : Int)))) nu1
          rw [e1] at c1 h1 R1 ⊢
          have D6 := D5.same c1
          have x1 := (S5.ne nu1).1
          generalize upd H5 u1 (.lst (ex.take P')) = G1 at c1 h1 R1 D6 ⊢
          have olds : ∀ c, H5 c ≠ none → G1 c ≠ none := fun c h z => h (c1.free z)
          refine ⟨_, rfl, _, rfl, _, rfl, a, ca, p, ((5 : Nat) : Int), r, z, n, _, rfl, R1, D6.pa, D6.hp, ar, az, g.n0, n64, fun v H7 ok1 ok2 dv B7 S7 => ?_⟩
          have BH7 := (But.same (a := a) c1).trans B7
          have D7 := D6.but B7 R1
          have hs7 := BH7 _ _ xs.1 hs5
          have dv' : D2 a s 3 H7 v := ⟨(dv a (olds a a5n)).le (by decide), (dv s (olds s s5n)).le (by decide)⟩
          have h1 := B7 _ _ x1 h1
          refine ⟨by show 1 ≤ sizeLine; decide, fun u2 nu2 => ?_⟩
          have c2 := same_new (o := .lst [v]) nu2
          have h2 : (upd H7 u2 (.lst [v])) u2 = some (.lst [v]) := upd_same
          have R2 := S7.new (o := .lst [v]) nu2
          have h1 := c2 _ _ h1
          have D8 := D7.same c2
          generalize upd H7 u2 (.lst [v]) = G2 at c2 h1 h2 R2 D8 ⊢
          refine ⟨u1, u2, _, _, rfl, rfl, h1, h2, Nat.le_trans (show (ex.take P').length + 1 ≤ 401 by rw [List.length_take]; have := D.le; omega) (by decide), fun u3 nu3 => ?_⟩
          have c3 := same_new (o := .lst (ex.take P' ++ [v])) nu3
          have h3 : (upd G2 u3 (.lst (ex.take P' ++ [v]))) u3 = some (.lst (ex.take P' ++ [v])) := upd_same
          have R3 := R2.new (o := .lst (ex.take P' ++ [v])) nu3
          have D9 := D8.same c3
          generalize upd G2 u3 (.lst (ex.take P' ++ [v])) = G3 at c3 h3 R3 D9 ⊢
          refine ⟨_, rfl, _, rfl, _, _, _, _, rfl, rfl, .inl (.inl D9.hp), rfl, _, rfl, _, rfl, e, ex, rfl, .inl (.inl D9.he), fun u4 nu4 => ?_⟩
          have e4 : cutV ex (some (P' : Int)) none = ex.drop P' := cut_drop Pl
          have c4 := same_new (o := .lst (cutV ex (some (P' : Int)) none)) nu4
          have h4 : (upd G3 u4 (.lst (cutV ex (some (P' : Int)) none))) u4 = some (.lst (cutV ex (some (P' : Int)) none)) := upd_same
          have R4 := R3.new (o := .lst (cutV ex (some (P' : Int)) none)) nu4
          have h3 := c4 _ _ h3
          rw [e4] at c4 h3 h4 R4 ⊢
          generalize upd G3 u4 (.lst (ex.drop P')) = G4 at c4 h3 h4 R4 ⊢
          refine ⟨u3, u4, _, _, rfl, rfl, h3, h4, Nat.le_trans (show (ex.take P' ++ [v]).length + (ex.drop P').length ≤ 401 by rw [List.length_append, List.length_take, List.length_drop]; show min P' _ + 1 + _ ≤ 401; have := D.le; omega) (by decide), fun u5 nu5 => ?_⟩
          have c5 := same_new (o := .lst (ex.take P' ++ [v] ++ ex.drop P')) nu5
          have h5 : (upd G4 u5 (.lst (ex.take P' ++ [v] ++ ex.drop P'))) u5 = some (.lst (ex.take P' ++ [v] ++ ex.drop P')) := upd_same
          have R5 := R4.new (o := .lst (ex.take P' ++ [v] ++ ex.drop P')) nu5
          have x5 := R4.ne nu5
          have c25 := ((c2.trans c3).trans c4)
          have n5H := c25.free nu5
          generalize upd G4 u5 (.lst (ex.take P' ++ [v] ++ ex.drop P')) = G5 at c5 h5 R5 ⊢
          have c75 := c25.trans c5
          refine ⟨fun σ' H' => ∃ tl : List V, σ' = [some (.ref a), some (.ref p), some (.ref s), some (.int ((5 : Nat) : Int)), some (.str (Str.ofString "ends")), some (.int (P' : Nat)), some (.int dr), none, some (.ref u5)] ∧ But a H7 H' ∧ Sto H' a ca ∧ H' u5 = some (.lst (ex.take P' ++ [v] ++ ex.drop P' ++ tl)) ∧ tl.length ≤ 1 ∧ ∀ y ∈ tl, D2 a s 3 H' y, ?_, ?_⟩
          · refine ⟨_, rfl, a, ca, 2, rfl, R5, by decide, fun d' G6 _ _ B6' R6 => ⟨rfl, _, rfl, ite2 (fun _ => ?_) (fun _ => ?_)⟩⟩
            · have h6 := B6' _ _ x5.1 h5
              have D10 := D7.but ((But.same (a := a) c75).trans B6') S7
              refine ⟨_, rfl, .inl ⟨rfl, _, .inl (.inl h6)⟩, _, rfl, _, rfl, _, rfl, a, ca, p, ((5 : Nat) : Int), r, z, n, _, rfl, R6, D10.pa, D10.hp, ar, az, g.n0, n64, fun v2 G7 _ _ dv2 B7' R7 => ?_⟩
              have h7 := B7' _ _ x5.1 h6
              have B77 := ((But.same (a := a) c75).trans B6').trans B7'
              have hs6 := B6' _ _ xs.1 (c75 _ _ hs7)
              have us : u5 ≠ s := fun e => by rw [e, hs7] at n5H; cases n5H
              have kp := But.put (o := .lst (ex.take P' ++ [v] ++ ex.drop P' ++ [v2])) h7
              have dv2' : D2 a s 3 G7 v2 := ⟨(dv2 a R6.some.1).le (by decide), (dv2 s (by rw [hs6]; exact fun e => by cases e)).le (by decide)⟩
              have du2 : Deep u5 3 G7 v2 := (dv2 u5 (by rw [h6]; exact fun e => by cases e)).le (by decide)
              refine ⟨u5, _, _, rfl, rfl, h7, ?_, [v2], rfl, But.grown (.refl H7) n5H B77 h7, R7.put x5, upd_same, Nat.le_refl _, fun y m => ?_⟩
              · rw [List.length_append, List.length_append, List.length_take, List.length_drop]
                exact Nat.lt_of_le_of_lt (show min P' _ + 1 + _ ≤ 401 by have := D.le; omega) (by decide)
              · rw [List.mem_singleton.mp m]
                exact ⟨dv2'.1.put kp du2, dv2'.2.put kp du2⟩
            · exact ⟨[], rfl, (But.same (a := a) c75).trans B6', R6, by rw [List.append_nil]; exact B6' _ _ x5.1 h5, Nat.zero_le _, fun y m => absurd m List.not_mem_nil⟩
          rintro σ' G7 ⟨tl, rfl, B77, R7, h7, ltl, dtl⟩
          refine ⟨_, rfl, _, rfl, 400, rfl, u5, _, rfl, .inl (.inl h7), fun u6 nu6 => ?_⟩
          have c6 := same_new (o := .lst (cutV (ex.take P' ++ [v] ++ ex.drop P' ++ tl) none (some 400))) nu6
          have h6 : (upd G7 u6 (.lst (cutV (ex.take P' ++ [v] ++ ex.drop P' ++ tl) none (some 400)))) u6 = some (.lst (cutV (ex.take P' ++ [v] ++ ex.drop P' ++ tl) none (some 400))) := upd_same
          have R6 := R7.new (o := .lst (cutV (ex.take P' ++ [v] ++ ex.drop P' ++ tl) none (some 400))) nu6
          have ec : cutV (ex.take P' ++ [v] ++ ex.drop P' ++ tl) none (some 400) = (ex.take P' ++ [v] ++ ex.drop P' ++ tl).take 400 := cut_take_all (k := 400)
          rw [ec] at h6 c6 R6 ⊢
          have x6 := (R7.ne nu6).1
          obtain ⟨sp1, sp2⟩ := spot_at (xs := ex) (tl := tl) (v := v) Pl (show P' < 400 by omega)
          have spm := spot_mem (xs := ex) (tl := tl) (v := v) (P := P')
          have lys : ((ex.take P' ++ [v] ++ ex.drop P' ++ tl).take 400).length ≤ 400 := by rw [List.length_take]; exact Nat.min_le_left _ _
          generalize (ex.take P' ++ [v] ++ ex.drop P' ++ tl).take 400 = ys at c6 h6 R6 sp1 sp2 spm lys ⊢
          generalize upd G7 u6 (.lst ys) = G8 at c6 h6 R6 ⊢
          refine ⟨a, ca, u6, _, rfl, R6, x6, h6, by omega, fun wv H9 wa w0 hw B9 S9 => ?_⟩
          have B89 := (But.same (a := a) c6).trans B9
          have B79 := B77.trans B89
          have B59 := BH7.trans B79
          have hs9 := B79 _ _ xs.1 hs7
          have D9' := D7.but B79 S7
          have ws : wv ≠ s := fun e => by rw [e, c6 _ _ (B77 _ _ xs.1 hs7)] at w0; cases w0
          have each : ∀ y ∈ ys, D2 a s 3 H9 y := fun y m => by
            rcases spm y m with m | m | m
            · rw [m]; exact dv'.but B79
            · exact (oe y m).but B59
            · exact (dtl y m).but B89
          have drow : D2 a s 6 H9 (.ref wv) := (D2.row (n := 3) hw wa ws (by omega) each).le (by decide)
          have en9 := D9'.ee'
          refine ⟨_, rfl, _, rfl, s, _, _, 5, rfl, rfl, hs9, rfl, _, rfl, _, rfl, by show 3 ≤ sizeLine; decide, fun d nd => ?_⟩
          have fl : FltAt K (fun H v => PairV H z n v) H9 (.ref wv) (.at P') := ⟨wv, ys, v, rfl, hw.elim .inl (fun h => .inr (.inl h)), lys, sp1, fun o => ok2 (by decide) (((pairV_put (s := a) B79 3 dv'.1)).mp o), fun j y hj hy => ⟨fun lt => by
            obtain ⟨e', t', he', rfl, ht'⟩ := en9.get (sp2 j y lt hy)
            exact (by obtain ⟨g1, g2, g3, g4⟩ := g.ge e' (List.mem_of_getElem? he'); exact ⟨t', e'.1, e'.2, rfl, ht', g1, g2, g3, g4⟩), (each y (List.mem_of_getElem? hy)).1.shal, (each y (List.mem_of_getElem? hy)).1.shal_in⟩⟩
          exact ⟨(.str r), (.str z), (.int n), (.ref b), (.ref c), (.ref wv), (.ends (.at P')), d, _, rfl, rfl, Mid.mk' (K := K) (rv := .str r) (zv := .str z) (nv := .int n) (bv := .ref b) (av := .ref c) (ev := .ref wv) (f := (.ends (.at P'))) ns xs (BH5.trans B59) S9 hs9 ⟨r, z, n, b, be, c, ae, ⟨rfl, rfl, rfl, ar, az, g.n0, n64⟩, rfl, ⟨bx, .inl D9'.hb, D9'.lb, D9'.eb⟩, g.gb, rfl, ⟨ax, .inl D9'.hc, D9'.la, D9'.ea⟩, g.ga, fl⟩ (o1.but B59) (o2.but B59) (o3.but B59) (o4.but B59) (o5.but B59) drow nd⟩
      · rintro σ' H6 ⟨rv, zv, nv, bv, av, ev, f, d, y, rfl, hpos, M⟩
        refine ⟨fun σ' H' => ∃ (rv zv nv bv av ev : V) (f : MF) (d : Addr) (y : Option V), σ' = [some (.ref a), some (.ref p), some (.ref s), some (.int ((5 : Nat) : Int)), some (.str (Str.ofString "ends")), some (.int (P' : Nat)), some (.int dr), some (.ref d), y] ∧ Mid K a ca s H H' d rv zv nv bv av ev f, ?_, ?_⟩
        · exact ⟨_, rfl, _, _, rfl, rfl, _, rfl, iteN (decide_eq_false (by decide)) (iteF ⟨rv, zv, nv, bv, av, ev, f, d, y, rfl, M⟩)⟩
        · rintro σ' H7 ⟨rv, zv, nv, bv, av, ev, f, d, y, rfl, M⟩
          exact ⟨_, rfl, _, rfl, by show 2 ≤ sizeLine; decide, fun t nt => fin H7 d rv zv nv bv av ev f M t nt⟩

def sp_store (K : PySem.W.Frag) : Sp := fun vs H Q _ => ∃ (a : Addr) (ns : List Int), vs = [.ref a] ∧ SqL K H a (ns.map V.int) ∧ ns.length ≤ 63 ∧
  ∀ (p ca : Addr) (H' : Hp), Same H H' → H p = none → Sto H' p ca → Q (.ref p) H'
theorem ok_store (T : Txt K mg base) : FnOk P w K mg base CX0 (0 + 1) T.f_store T.fd_store ["script"] (sp_store K) := by
  refine T.F_store.ok sc_store (fun vs H Q E h => ?_) (fun cdv A outer s H vs Q E hr h => ?_)
  · obtain ⟨a, ns, rfl, _⟩ := h
    rfl
  · obtain ⟨a, ns, rfl, hS, hl, q⟩ := h
    refine ⟨_, (pss_cons (ps_set (i := 1) sc_store.nd rfl (.inl rfl) pe_int)
      (pss_cons (ps_for PassesOwn.never rfl (pi_list (pv 0)) (pg_name (i := 2) sc_store.nd rfl (.inl rfl)) (pss_one (ps_set (i := 1) sc_store.nd rfl (.inl rfl) (pe_op op_mod (pe_callTy call_int1 (by rfl) T.z_int (by decide +kernel) (pa_cons (pe_op op_add (pe_op op_add (pe_op op_mul (pv 1) pe_int) (pe_op op_mod (pe_callTy call_int1 (by rfl) T.z_int (by decide +kernel) (pa_cons (pv 2) pa_nil)) pe_int)) pe_int) pa_nil)) pe_int))))
      (pss_one (ps_ret (pe_lst (pa_cons (pe_callTy call_list_of (by rfl) T.z_list (by decide +kernel) (pa_cons (pv 0) pa_nil)) (pa_cons pe_int (pa_cons pe_int (pa_cons pe_int (pa_cons (pv 1) pa_nil)))))))))), ?_⟩
    -- seed = 17, the loop
    refine ⟨.ref a, rfl, a, rfl, ⟨_, hS⟩, for_list (K := K) (a := a) (xs := ns.map V.int) (fun i σ H' => ∃ (z : Int) (y : Option V), σ = [some (.ref a), some (.int z), y] ∧ H' = H)
      ⟨17, none, rfl, rfl⟩ (fun i σ H' _ ⟨_, _, _, e⟩ => by rw [e]; exact hS) ?_ ?_⟩
    · rintro i y σ H' hi ⟨z, y0, rfl, rfl⟩
      obtain ⟨n, hn, rfl⟩ : ∃ n, ns[i]? = some n ∧ y = V.int n := by
        rw [List.getElem?_map] at hi
        cases e : ns[i]? with
        | none =>
          rw [e] at hi
          cases hi
        | some n =>
          rw [e] at hi
          exact ⟨n, rfl, (Option.some.inj hi).symm⟩
      exact ⟨_, rfl, _, _, rfl, rfl, .inr ⟨by decide, by decide⟩, _, rfl, .inl ⟨_, rfl, _, _, rfl, rfl, (by show (0 : Int) < 1000003; decide), _, _, rfl, rfl, _, _, rfl, rfl, .inl ⟨_, rfl, _, _, rfl, rfl, (by show (0 : Int) < 2147483647; decide), _, _, rfl, rfl⟩⟩⟩
    · rintro σ H' ⟨z, y0, rfl, rfl⟩
      refine ⟨.ref a, rfl, a, _, rfl, .inl hS, fun c nc => ⟨_, rfl, by show 5 ≤ sizeLine; decide, fun p np => ?_⟩⟩
      have s1 : Same H' (upd H' c (.lst (ns.map V.int))) := same_new nc
      have s2 : Same (upd H' c (.lst (ns.map V.int))) (upd (upd H' c (.lst (ns.map V.int))) p (.lst [.ref c, .int 0, .int 0, .int 0, .int z])) := same_new np
      have ncp : c ≠ p := fun e => by
        rw [← e, upd_same] at np
        cases np
      refine q p c _ (s1.trans s2) (s1.free np) ⟨ns, 0, 0, 0, z, upd_same, ?_, Int.le_refl 0, ncp⟩
      rw [upd_ne ncp, upd_same]

theorem ok_law (T : Txt K mg base) : FnOk P w K mg base CX0 (22 + 1) T.f_law T.fd_law ["script"] (sp_law K) := by
  refine T.F_law.ok sc_law (fun vs H Q E h => ?_) (fun A outer st H vs Q E hr h => ?_)
  · obtain ⟨a, ns, rfl, _⟩ := h
    rfl
  · obtain ⟨sc, ns, rfl, hS, hlen, good, q⟩ := h
    have s := st
    refine ⟨_, (pss_cons (ps_set (i := 1) sc_law.nd rfl (.inl rfl) (pe_call (ok_store T) (hr.mono (by first | decide | exact Nat.le_refl _)) (by rfl) T.g_store T.F_store.kp T.b_store .nil pass0 (pa_cons (pv 0) pa_nil)))
      (pss_cons (ps_set (i := 5) sc_law.nd rfl (.inr rfl) (pe_call (ok_good_parts T) (hr.mono (by first | decide | exact Nat.le_refl _)) (by rfl) T.g_good_parts T.F_good_parts.kp T.b_good_parts .nil pass0 (pa_cons (pv 1) pa_nil)))
      (pss_cons (ps_if (pt_not (pt_val (pe_call (ok_told_right T) (hr.mono (by first | decide | exact Nat.le_refl _)) (by rfl) T.g_told_right T.F_told_right.kp T.b_told_right .nil pass0 (pa_cons (pe_call (ok_made T) (hr.mono (by first | decide | exact Nat.le_refl _)) (by rfl) T.g_made T.F_made.kp T.b_made .nil passL (pa_cons (pv 5) pa_nil)) (pa_cons (pv 5) pa_nil))))) (pss_one (ps_ret pe_bl)) pss_nil)
      (C8.pss_cut (ps_for PassesOwn.never rfl (pi_range1 (by rfl) T.z_range (pa_cons pe_int pa_nil)) (pg_name (i := 2) sc_law.nd rfl (.inl rfl)) (pss_cons (ps_set (i := 3) sc_law.nd rfl (.inl rfl) (pe_call (ok_spoilt T) (hr.mono (by first | decide | exact Nat.le_refl _)) (by rfl) T.g_spoilt T.F_spoilt.kp T.b_spoilt .nil pass0 (pa_cons (pv 1) (pa_cons (pv 5) pa_nil))))
      (pss_one (ps_if (pt_not (pt_val (pe_call (ok_refused_right T) (hr.mono (by first | decide | exact Nat.le_refl _)) (by rfl) T.g_refused_right T.F_refused_right.kp T.b_refused_right .nil pass0 (pa_cons (pe_ix ix_tup (pv 3) pe_int (fun _ _ => rfl)) (pa_cons (pe_ix ix_tup (pv 3) pe_int (fun _ _ => rfl)) pa_nil))))) (pss_one (ps_ret pe_bl)) pss_nil))))
      (pss_cons (ps_set (i := 4) sc_law.nd rfl (.inr rfl) (pe_call (ok_wrong_entry T) (hr.mono (by first | decide | exact Nat.le_refl _)) (by rfl) T.g_wrong_entry T.F_wrong_entry.kp T.b_wrong_entry .nil pass0 (pa_cons (pv 1) (pa_cons (pv 5) (pa_cons pe_int pa_nil)))))
      (pss_cons (ps_if (pt_not (pt_val (pe_call (ok_same T) (hr.mono (by first | decide | exact Nat.le_refl _)) (by rfl) T.g_same T.F_same.kp T.b_same .nil pass0 (pa_cons (pe_lam (k := 10) T.F_refusal T.b_refusal sc_refusal (fun cdg => gives_refusal T _ _ _ _ _ _ _ _ _ _ cdg) T.B_law T.m_law rfl (hr.mono (by first | decide | exact Nat.le_refl _)) (LamX.lamS_by (sc := defScope s_law) (by decide +kernel)) T.g_refusal (fun A outer s H E f c hr2 => pe_makeKS T.M_Machine (ok_Machine___init__ T) hr2 (by rfl) T.mg_Machine T.kb_Machine_1 (fun σ => passAt (takes_of rfl rfl rfl rfl) σ) (pa_cons (pe_ix (ix_listK K rfl) (pv 5) pe_int (fun _ _ => rfl)) (pa_cons (pe_ix (ix_listK K rfl) (pv 5) pe_int (fun _ _ => rfl)) (pa_cons (pe_ix (ix_listK K rfl) (pv 5) pe_int (fun _ _ => rfl)) pa_nil))) (pk_cons (pe_tup (pa_cons (pv 4) pa_nil)) pk_nil))) (pa_cons (pe_tup (pa_cons pe_str (pa_cons pe_str (pa_cons pe_int pa_nil)))) pa_nil))))) (pss_one (ps_ret pe_bl)) pss_nil)
      (pss_cons (ps_if (pt_not (pt_val (pe_call (ok_mended_right T) (hr.mono (by first | decide | exact Nat.le_refl _)) (by rfl) T.g_mended_right T.F_mended_right.kp T.b_mended_right .nil pass0 (pa_cons (pv 1) (pa_cons (pv 5) pa_nil))))) (pss_one (ps_ret pe_bl)) pss_nil)
      (pss_one (ps_ret (pe_call (ok_told_right T) (hr.mono (by first | decide | exact Nat.le_refl _)) (by rfl) T.g_told_right T.F_told_right.kp T.b_told_right .nil pass0 (pa_cons (pe_call (ok_made T) (hr.mono (by first | decide | exact Nat.le_refl _)) (by rfl) T.g_made T.F_made.kp T.b_made .nil passL (pa_cons (pv 5) pa_nil)) (pa_cons (pv 5) pa_nil)))))))))))), ?_⟩
    clear s
    refine ⟨_, rfl, sc, ns, rfl, hS, hlen, fun a ca H1 s1 na S1 => ?_⟩
    have g1 := s1.good good
    refine ⟨_, rfl, a, ca, rfl, S1, fun p r z n be ae ee b c e bx ax ex H2 D B2 S2 => ?_⟩
    have g2 := B2.good g1
    have ar := D.g.ar
    have az := D.g.az
    refine ⟨_, rfl, p, .str r, .str z, .int n, .ref b, .ref c, .ref e, rfl, D.hp, g2, .inl ⟨r, z, n, b, c, e, be, ae, ee, rfl, rfl, rfl, rfl, rfl, rfl, D.g, ⟨bx, .inl D.hb, D.lb, D.eb⟩, ⟨ax, .inl D.hc, D.la, D.ea⟩, ⟨ex, .inl D.he, D.le, D.ee'⟩, fun m H3 s3 nm M Y => ?_⟩⟩
    have D3 := D.same s3
    refine ⟨_, rfl, m, p, r, z, n, be, ae, ee, b, c, e, bx, ax, ex, rfl, D.g, M, D3.hp, D3.hb, D3.hc, D3.he, D3.lb, D3.la, D3.le, D3.eb, D3.ea, D3.ee', fun H4 s4 => ⟨_, rfl, iteN rfl ?_⟩⟩
    have s24 := s3.trans s4
    have D4 := D.same s24
    have S4 := S2.same s24
    have g4 := s24.good g2
    refine ⟨fun σ' H' => (∃ y2 y3 : Option V, σ' = [some (.ref sc), some (.ref a), y2, y3, none, some (.ref p)]) ∧ But a H4 H' ∧ Sto H' a ca, ?_, ?_⟩
    · refine ⟨5, rfl, by decide, by decide, for_range (lo := 0) (n := 5) (fun i σ H' => (∃ y2 y3 : Option V, σ = [some (.ref sc), some (.ref a), y2, y3, none, some (.ref p)]) ∧ But a H4 H' ∧ Sto H' a ca) ⟨⟨_, _, rfl⟩, .refl _, S4⟩ ?_ (fun σ H' h => h)⟩
      rintro i σ H5 hi ⟨⟨y2, y3, rfl⟩, B5, S5⟩
      refine ⟨_, rfl, _, rfl, a, ca, p, r, z, n, be, ae, ee, b, c, e, bx, ax, ex, rfl, S5, D4.but B5 S4, fun t s d H6 ht sp B6 S6 => ?_⟩
      have B46 := B5.trans B6
      exact ⟨_, rfl, _, _, _, _, rfl, rfl, .inl (.inl ht), rfl, _, rfl, _, _, _, _, rfl, rfl, .inl (.inl ht), rfl, a, s, d, rfl, B46.good g4, sp, fun H7 s7 => ⟨_, rfl, iteN rfl ⟨⟨_, _, rfl⟩, B46.trans (But.same s7), S6.same s7⟩⟩⟩
    rintro σ' H5 ⟨⟨y2, y3, rfl⟩, B5, S5⟩
    have D5 := D4.but B5 S4
    have g5 := B5.good g4
    refine ⟨_, rfl, _, rfl, a, ca, p, 5, r, z, n, _, rfl, S5, D5.pa, D5.hp, ar, az, D.g.n0, D.g.n64, fun v H6 _ ok2 dv B6 S6 => ?_⟩
    have D6 := D5.but B6 S5
    have g6 := B6.good g5
    have dva := dv a S5.some.1
    refine ⟨g6, fun H7 s7 L nL => ?_⟩
    have k8 := same_new (o := .lst []) nL
    have s68 := s7.trans k8
    have D8 := D6.same s68
    refine ⟨_, rfl, _, _, _, _, rfl, rfl, .inl (.inl D8.hp), rfl, _, rfl, _, _, _, _, rfl, rfl, .inl (.inl D8.hp), rfl, _, rfl, _, _, _, _, rfl, rfl, .inl (.inl D8.hp), rfl, _, rfl, by show 1 ≤ sizeLine; decide, fun tb ntb => ?_⟩
    have k9 := same_new (o := .tup [v]) ntb
    have hb : (upd (upd H7 L (.lst [])) tb (.tup [v])) tb = some (.tup [v]) := upd_same
    have dv9 := (dva.same s68).same k9
    have np9 : ¬ PairV (upd (upd H7 L (.lst [])) tb (.tup [v])) z n v := fun o => ok2 (by decide) ((o.back (s68.trans k9) dva.shal))
    generalize upd (upd H7 L (.lst [])) tb (.tup [v]) = H9 at k9 hb dv9 np9 ⊢
    refine ⟨rfl, rfl, fun m2 dx nm2 nd2 ne2 => ?_⟩
    have q1 := same_new (o := .own m2) nd2
    have nm' : (upd H9 dx (.own m2)) m2 = none := by
      rw [upd_ne (Ne.symm ne2)]
      exact nm2
    have q2 := q1.trans (same_new (o := .ins T.C_Machine dx []) nm')
    have nil : ∀ {α : Type} {x : α} {P : Prop}, x ∈ ([] : List α) → P := fun m => absurd m List.not_mem_nil
    refine ⟨m2, dx, .str r, .str z, .int n, .ref T.kt_Machine_begins, .ref T.kt_Machine_arcs, .ref tb, rfl, upd_same, q2.good ((s68.trans k9).good g6), .inr ⟨.ends (.at 0), ⟨r, z, n, T.kt_Machine_begins, [], T.kt_Machine_arcs, [], ⟨rfl, rfl, rfl, ar, az, D.g.n0, D.g.n64⟩, rfl, RowE.nil T.ke_Machine_begins, fun e m => nil m, rfl, RowE.nil T.ke_Machine_arcs, fun e m => nil m, tb, [v], v, rfl, .inr (.inl (q2 _ _ hb)), by show 1 ≤ 400; decide, rfl, fun o => np9 (o.back q2 dv9.shal), fun j y hj hy => ?_⟩, fun d H10 H11 B10 nd e11 => ?_⟩⟩
    · obtain rfl : j = 0 := by omega
      cases hy
      exact ⟨fun h => absurd h (by decide), (dv9.same q2).shal, (dv9.same q2).shal_in⟩
    subst e11
    have s910 := But.made nm2 nd2 ne2 B10
    refine ⟨(k9.trans s910).trans (same_new nd), d, _, _, rfl, upd_same, MF.refT (.ends (.at 0)), fun t H12 s12 ht => ?_⟩
    refine ⟨by show 3 ≤ sizeLine; decide, fun t2 nt2 => ?_⟩
    have k13 := same_new (o := .tup [.str (Str.ofString "BadEntry"), .str (Str.ofString "ends"), .int 0]) nt2
    have ht2 : (upd H12 t2 (.tup [.str (Str.ofString "BadEntry"), .str (Str.ofString "ends"), .int 0])) t2 = some (.tup [.str (Str.ofString "BadEntry"), .str (Str.ofString "ends"), .int 0]) := upd_same
    have ht := k13 _ _ ht
    generalize upd H12 t2 (.tup [.str (Str.ofString "BadEntry"), .str (Str.ofString "ends"), .int 0]) = H13 at k13 ht ht2 ⊢
    refine ⟨_, _, rfl, .inr ⟨t, t2, _, _, rfl, rfl, .inl ⟨ht, ht2⟩, rfl, by show 3 ≤ 1000000; decide, fun i x y ex' ey => .inl ⟨Option.some.inj (ex'.symm.trans ey), ?_⟩⟩, _, rfl, iteN rfl ?_⟩
    · have m := List.mem_of_getElem? ey
      rcases List.mem_cons.mp m with e | m
      · rw [e]; rfl
      rcases List.mem_cons.mp m with e | m
      · rw [e]; rfl
      · rw [List.mem_singleton.mp m]; rfl
    have s613 := (s7.trans s12).trans k13
    have D13 := D6.same s613
    have S13 := S6.same s613
    have g13 := s613.good g6
    refine ⟨_, rfl, _, rfl, a, ca, p, r, z, n, be, ae, ee, b, c, e, bx, ax, ex, rfl, g13, S13, D13, fun H14 B14 S14 => ⟨_, rfl, iteN rfl ?_⟩⟩
    have D14 := D13.but B14 S13
    have g14 := B14.good g13
    refine ⟨_, rfl, p, .str r, .str z, .int n, .ref b, .ref c, .ref e, rfl, D14.hp, g14, .inl ⟨r, z, n, b, c, e, be, ae, ee, rfl, rfl, rfl, rfl, rfl, rfl, D14.g, ⟨bx, .inl D14.hb, D14.lb, D14.eb⟩, ⟨ax, .inl D14.hc, D14.la, D14.ea⟩, ⟨ex, .inl D14.he, D14.le, D14.ee'⟩, fun m3 H15 s15 nm3 M3 Y3 => ?_⟩⟩
    have D15 := D14.same s15
    exact ⟨_, rfl, m3, p, r, z, n, be, ae, ee, b, c, e, bx, ax, ex, rfl, D.g, M3, D15.hp, D15.hb, D15.hc, D15.he, D15.lb, D15.la, D15.le, D15.eb, D15.ea, D15.ee', fun H16 _ => q H16⟩

end
theorem all_mk {l : PySem.W.OpenLaw} {w : World} {K : PySem.W.Frag} {h : Heap} {mg : Str → Option Value} {names : List Str} {fa f0 f1 f2 f3 f4 f5 f6 f7 f8 f9 f10 f11 f12 f13 f14 f15 f16 f17 f18 f19 f20 f21 f22 f23 f24 f25 f26 f27 f28 f29 f30 f31 f32 f33 f34 f35 f36 f37 f38 f39 f40 f41 f42 f43 : Addr} (X : K.In h) (G : h.Ns mainGlobals mg) (hfa : mg "law" = some (.ref fa)) (E : Empty names K mg h)
    {od0 an0 od1 an1 od2 an2 od3 an3 od4 an4 od5 an5 od6 an6 od7 an7 od8 an8 od9 an9 od10 an10 od11 an11 od12 an12 od13 an13 od14 an14 od15 an15 od16 an16 od17 an17 od18 an18 od19 an19 od20 an20 od21 an21 od22 an22 od23 an23 od24 an24 od25 an25 od26 an26 od27 an27 od28 an28 od29 an29 od30 an30 od31 an31 od32 an32 od33 an33 od34 an34 od35 an35 od36 an36 od37 an37 od38 an38 od39 an39 od40 an40 od41 an41 od42 an42 od43 an43 : Option Addr} {sl0 sl1 sl2 sl3 sl4 sl5 sl6 sl7 sl8 sl9 sl10 sl11 sl12 sl13 sl14 sl15 sl16 sl17 sl18 sl19 sl20 sl21 sl22 sl23 sl24 sl25 sl26 sl27 sl28 sl29 sl30 sl31 sl32 sl33 sl34 sl35 sl36 sl37 sl38 sl39 sl40 sl41 sl42 sl43 : Array (Option Value)} {oc0 kV0 dc0 pm0 ct0 cd0 oc1 kV1 dc1 pm1 ct1 cd1 oc2 kV2 dc2 pm2 ct2 cd2 oc3 kV3 dc3 pm3 ct3 oc4 kV4 dc4 pm4 ct4 cd4 oc5 kV5 dc5 pm5 ct5 oc6 kV6 dc6 pm6 ct6 cd6 oc7 kV7 dc7 pm7 ct7 cd7 oc8 kV8 dc8 pm8 ct8 cd8 oc9 kV9 dc9 pm9 ct9 cd9 oc10 kV10 dc10 pm10 ct10 cd10 oc11 kV11 dc11 pm11 ct11 cd11 oc12 kV12 dc12 pm12 ct12 cd12 oc13 kV13 dc13 pm13 ct13 cd13 oc14 kV14 dc14 pm14 ct14 cd14 oc15 kV15 dc15 pm15 ct15 cd15 oc16 kV16 dc16 pm16 ct16 cd16 oc17 kV17 dc17 pm17 ct17 cd17 oc18 kV18 dc18 pm18 ct18 cd18 oc19 kV19 dc19 pm19 ct19 cd19 oc20 kV20 dc20 pm20 ct20 cd20 oc21 kV21 dc21 pm21 ct21 cd21 oc22 kV22 dc22 pm22 ct22 cd22 oc23 kV23 dc23 pm23 ct23 cd23 oc24 kV24 dc24 pm24 ct24 cd24 oc25 kV25 dc25 pm25 ct25 cd25 oc26 kV26 dc26 pm26 ct26 cd26 oc27 kV27 dc27 pm27 ct27 cd27 oc28 kV28 dc28 pm28 ct28 cd28 oc29 kV29 dc29 pm29 ct29 cd29 oc30 kV30 dc30 pm30 ct30 cd30 oc31 kV31 dc31 pm31 ct31 cd31 oc32 kV32 dc32 pm32 ct32 cd32 oc33 kV33 dc33 pm33 ct33 cd33 oc34 kV34 dc34 pm34 ct34 cd34 oc35 kV35 dc35 pm35 ct35 cd35 oc36 kV36 dc36 pm36 ct36 cd36 oc37 kV37 dc37 pm37 ct37 cd37 oc38 kV38 dc38 pm38 ct38 cd38 oc39 kV39 dc39 pm39 ct39 cd39 oc40 kV40 dc40 pm40 ct40 cd40 oc41 kV41 dc41 pm41 ct41 oc42 kV42 dc42 pm42 ct42 cd42 oc43 kV43 dc43 pm43 ct43 : Value}
    {c3 P3 c5 P5 c41 P41 c43 P43 : Addr} {vd3 vd5 vd41 vd43 : Option Addr} {vl3 vl5 vl41 vl43 : Array (Option Value)} {vs3 vs5 vs41 vs43 : Array Value} {ve3 ve5 ve41 ve43 : Value}
    (a0 : PySem.W.nsIn K mainGlobals "is_whole" = some (some (.ref f0))) (l0 : K.lookup f0 = some ⟨oc0, od0, .func (PySem.W.fnOf "is_whole" "is_whole" (defArgs s_is_whole) (defBody s_is_whole) (defScope s_is_whole) .none kV0 dc0 pm0 an0 cd0 ct0), sl0⟩) (k0 : PySem.W.keepIn K (.ref f0) = true) (c_0 : PySem.W.codeIn K cd0 "is_whole" = true)
    (a1 : PySem.W.nsIn K mainGlobals "in_range" = some (some (.ref f1))) (l1 : K.lookup f1 = some ⟨oc1, od1, .func (PySem.W.fnOf "in_range" "in_range" (defArgs s_in_range) (defBody s_in_range) (defScope s_in_range) .none kV1 dc1 pm1 an1 cd1 ct1), sl1⟩) (k1 : PySem.W.keepIn K (.ref f1) = true) (c_1 : PySem.W.codeIn K cd1 "in_range" = true)
    (a2 : PySem.W.nsIn K mainGlobals "check_number" = some (some (.ref f2))) (l2 : K.lookup f2 = some ⟨oc2, od2, .func (PySem.W.fnOf "check_number" "check_number" (defArgs s_check_number) (defBody s_check_number) (defScope s_check_number) .none kV2 dc2 pm2 an2 cd2 ct2), sl2⟩) (k2 : PySem.W.keepIn K (.ref f2) = true) (c_2 : PySem.W.codeIn K cd2 "check_number" = true)
    (a3 : PySem.W.nsIn K mainGlobals "is_letters" = some (some (.ref f3))) (l3 : K.lookup f3 = some ⟨oc3, od3, .func (PySem.W.fnOf "is_letters" "is_letters" (defArgs s_is_letters) (defBody s_is_letters) (defScope s_is_letters) .none kV3 dc3 pm3 an3 (.ref c3) ct3), sl3⟩) (k3 : PySem.W.keepIn K (.ref f3) = true) (c_3 : PySem.W.codeIn K (.ref c3) "is_letters" = true)
    (r3 : K.lookup c3 = some ⟨ve3, vd3, .fields vs3, vl3⟩) (p3 : vs3[11]? = some (.ref P3)) (n3 : K.lookup P3 = none)
    (h3 : PySem.W.codeHdIn K c3 P3 = true) (y3 : Str.ofString "is_letters" ∈ names)
    (a4 : PySem.W.nsIn K mainGlobals "is_letter" = some (some (.ref f4))) (l4 : K.lookup f4 = some ⟨oc4, od4, .func (PySem.W.fnOf "is_letter" "is_letter" (defArgs s_is_letter) (defBody s_is_letter) (defScope s_is_letter) .none kV4 dc4 pm4 an4 cd4 ct4), sl4⟩) (k4 : PySem.W.keepIn K (.ref f4) = true) (c_4 : PySem.W.codeIn K cd4 "is_letter" = true)
    (a5 : PySem.W.nsIn K mainGlobals "is_word" = some (some (.ref f5))) (l5 : K.lookup f5 = some ⟨oc5, od5, .func (PySem.W.fnOf "is_word" "is_word" (defArgs s_is_word) (defBody s_is_word) (defScope s_is_word) .none kV5 dc5 pm5 an5 (.ref c5) ct5), sl5⟩) (k5 : PySem.W.keepIn K (.ref f5) = true) (c_5 : PySem.W.codeIn K (.ref c5) "is_word" = true)
    (r5 : K.lookup c5 = some ⟨ve5, vd5, .fields vs5, vl5⟩) (p5 : vs5[11]? = some (.ref P5)) (n5 : K.lookup P5 = none)
    (h5 : PySem.W.codeHdIn K c5 P5 = true) (y5 : Str.ofString "is_word" ∈ names)
    (a6 : PySem.W.nsIn K mainGlobals "is_word_up_to" = some (some (.ref f6))) (l6 : K.lookup f6 = some ⟨oc6, od6, .func (PySem.W.fnOf "is_word_up_to" "is_word_up_to" (defArgs s_is_word_up_to) (defBody s_is_word_up_to) (defScope s_is_word_up_to) .none kV6 dc6 pm6 an6 cd6 ct6), sl6⟩) (k6 : PySem.W.keepIn K (.ref f6) = true) (c_6 : PySem.W.codeIn K cd6 "is_word_up_to" = true)
    (a7 : PySem.W.nsIn K mainGlobals "check_letters" = some (some (.ref f7))) (l7 : K.lookup f7 = some ⟨oc7, od7, .func (PySem.W.fnOf "check_letters" "check_letters" (defArgs s_check_letters) (defBody s_check_letters) (defScope s_check_letters) .none kV7 dc7 pm7 an7 cd7 ct7), sl7⟩) (k7 : PySem.W.keepIn K (.ref f7) = true) (c_7 : PySem.W.codeIn K cd7 "check_letters" = true)
    (a8 : PySem.W.nsIn K mainGlobals "word_key" = some (some (.ref f8))) (l8 : K.lookup f8 = some ⟨oc8, od8, .func (PySem.W.fnOf "word_key" "word_key" (defArgs s_word_key) (defBody s_word_key) (defScope s_word_key) .none kV8 dc8 pm8 an8 cd8 ct8), sl8⟩) (k8 : PySem.W.keepIn K (.ref f8) = true) (c_8 : PySem.W.codeIn K cd8 "word_key" = true)
    (a9 : PySem.W.nsIn K mainGlobals "is_pair" = some (some (.ref f9))) (l9 : K.lookup f9 = some ⟨oc9, od9, .func (PySem.W.fnOf "is_pair" "is_pair" (defArgs s_is_pair) (defBody s_is_pair) (defScope s_is_pair) .none kV9 dc9 pm9 an9 cd9 ct9), sl9⟩) (k9 : PySem.W.keepIn K (.ref f9) = true) (c_9 : PySem.W.codeIn K cd9 "is_pair" = true)
    (a10 : PySem.W.nsIn K mainGlobals "is_arc" = some (some (.ref f10))) (l10 : K.lookup f10 = some ⟨oc10, od10, .func (PySem.W.fnOf "is_arc" "is_arc" (defArgs s_is_arc) (defBody s_is_arc) (defScope s_is_arc) .none kV10 dc10 pm10 an10 cd10 ct10), sl10⟩) (k10 : PySem.W.keepIn K (.ref f10) = true) (c_10 : PySem.W.codeIn K cd10 "is_arc" = true)
    (a11 : PySem.W.nsIn K mainGlobals "pair_key" = some (some (.ref f11))) (l11 : K.lookup f11 = some ⟨oc11, od11, .func (PySem.W.fnOf "pair_key" "pair_key" (defArgs s_pair_key) (defBody s_pair_key) (defScope s_pair_key) .none kV11 dc11 pm11 an11 cd11 ct11), sl11⟩) (k11 : PySem.W.keepIn K (.ref f11) = true) (c_11 : PySem.W.codeIn K cd11 "pair_key" = true)
    (a12 : PySem.W.nsIn K mainGlobals "arc_key" = some (some (.ref f12))) (l12 : K.lookup f12 = some ⟨oc12, od12, .func (PySem.W.fnOf "arc_key" "arc_key" (defArgs s_arc_key) (defBody s_arc_key) (defScope s_arc_key) .none kV12 dc12 pm12 an12 cd12 ct12), sl12⟩) (k12 : PySem.W.keepIn K (.ref f12) = true) (c_12 : PySem.W.codeIn K cd12 "arc_key" = true)
    (a13 : PySem.W.nsIn K mainGlobals "check_many" = some (some (.ref f13))) (l13 : K.lookup f13 = some ⟨oc13, od13, .func (PySem.W.fnOf "check_many" "check_many" (defArgs s_check_many) (defBody s_check_many) (defScope s_check_many) .none kV13 dc13 pm13 an13 cd13 ct13), sl13⟩) (k13 : PySem.W.keepIn K (.ref f13) = true) (c_13 : PySem.W.codeIn K cd13 "check_many" = true)
    (a14 : PySem.W.nsIn K mainGlobals "checked_pairs" = some (some (.ref f14))) (l14 : K.lookup f14 = some ⟨oc14, od14, .func (PySem.W.fnOf "checked_pairs" "checked_pairs" (defArgs s_checked_pairs) (defBody s_checked_pairs) (defScope s_checked_pairs) .none kV14 dc14 pm14 an14 cd14 ct14), sl14⟩) (k14 : PySem.W.keepIn K (.ref f14) = true) (c_14 : PySem.W.codeIn K cd14 "checked_pairs" = true)
    (a15 : PySem.W.nsIn K mainGlobals "checked_arcs" = some (some (.ref f15))) (l15 : K.lookup f15 = some ⟨oc15, od15, .func (PySem.W.fnOf "checked_arcs" "checked_arcs" (defArgs s_checked_arcs) (defBody s_checked_arcs) (defScope s_checked_arcs) .none kV15 dc15 pm15 an15 cd15 ct15), sl15⟩) (k15 : PySem.W.keepIn K (.ref f15) = true) (c_15 : PySem.W.codeIn K cd15 "checked_arcs" = true)
    (a16 : PySem.W.nsIn K mainGlobals "_law_mix" = some (some (.ref f16))) (l16 : K.lookup f16 = some ⟨oc16, od16, .func (PySem.W.fnOf "_law_mix" "_law_mix" (defArgs s_mix) (defBody s_mix) (defScope s_mix) .none kV16 dc16 pm16 an16 cd16 ct16), sl16⟩) (k16 : PySem.W.keepIn K (.ref f16) = true) (c_16 : PySem.W.codeIn K cd16 "_law_mix" = true)
    (a17 : PySem.W.nsIn K mainGlobals "_law_store" = some (some (.ref f17))) (l17 : K.lookup f17 = some ⟨oc17, od17, .func (PySem.W.fnOf "_law_store" "_law_store" (defArgs s_store) (defBody s_store) (defScope s_store) .none kV17 dc17 pm17 an17 cd17 ct17), sl17⟩) (k17 : PySem.W.keepIn K (.ref f17) = true) (c_17 : PySem.W.codeIn K cd17 "_law_store" = true)
    (a18 : PySem.W.nsIn K mainGlobals "_law_take" = some (some (.ref f18))) (l18 : K.lookup f18 = some ⟨oc18, od18, .func (PySem.W.fnOf "_law_take" "_law_take" (defArgs s_take) (defBody s_take) (defScope s_take) .none kV18 dc18 pm18 an18 cd18 ct18), sl18⟩) (k18 : PySem.W.keepIn K (.ref f18) = true) (c_18 : PySem.W.codeIn K cd18 "_law_take" = true)
    (a19 : PySem.W.nsIn K mainGlobals "_law_pick" = some (some (.ref f19))) (l19 : K.lookup f19 = some ⟨oc19, od19, .func (PySem.W.fnOf "_law_pick" "_law_pick" (defArgs s_pick) (defBody s_pick) (defScope s_pick) .none kV19 dc19 pm19 an19 cd19 ct19), sl19⟩) (k19 : PySem.W.keepIn K (.ref f19) = true) (c_19 : PySem.W.codeIn K cd19 "_law_pick" = true)
    (a20 : PySem.W.nsIn K mainGlobals "_law_between" = some (some (.ref f20))) (l20 : K.lookup f20 = some ⟨oc20, od20, .func (PySem.W.fnOf "_law_between" "_law_between" (defArgs s_between) (defBody s_between) (defScope s_between) .none kV20 dc20 pm20 an20 cd20 ct20), sl20⟩) (k20 : PySem.W.keepIn K (.ref f20) = true) (c_20 : PySem.W.codeIn K cd20 "_law_between" = true)
    (a21 : PySem.W.nsIn K mainGlobals "_law_worn" = some (some (.ref f21))) (l21 : K.lookup f21 = some ⟨oc21, od21, .func (PySem.W.fnOf "_law_worn" "_law_worn" (defArgs s_worn) (defBody s_worn) (defScope s_worn) .none kV21 dc21 pm21 an21 cd21 ct21), sl21⟩) (k21 : PySem.W.keepIn K (.ref f21) = true) (c_21 : PySem.W.codeIn K cd21 "_law_worn" = true)
    (a22 : PySem.W.nsIn K mainGlobals "_law_letters" = some (some (.ref f22))) (l22 : K.lookup f22 = some ⟨oc22, od22, .func (PySem.W.fnOf "_law_letters" "_law_letters" (defArgs s_letters) (defBody s_letters) (defScope s_letters) .none kV22 dc22 pm22 an22 cd22 ct22), sl22⟩) (k22 : PySem.W.keepIn K (.ref f22) = true) (c_22 : PySem.W.codeIn K cd22 "_law_letters" = true)
    (a23 : PySem.W.nsIn K mainGlobals "_law_stranger" = some (some (.ref f23))) (l23 : K.lookup f23 = some ⟨oc23, od23, .func (PySem.W.fnOf "_law_stranger" "_law_stranger" (defArgs s_stranger) (defBody s_stranger) (defScope s_stranger) .none kV23 dc23 pm23 an23 cd23 ct23), sl23⟩) (k23 : PySem.W.keepIn K (.ref f23) = true) (c_23 : PySem.W.codeIn K cd23 "_law_stranger" = true)
    (a24 : PySem.W.nsIn K mainGlobals "_law_word" = some (some (.ref f24))) (l24 : K.lookup f24 = some ⟨oc24, od24, .func (PySem.W.fnOf "_law_word" "_law_word" (defArgs s_word) (defBody s_word) (defScope s_word) .none kV24 dc24 pm24 an24 cd24 ct24), sl24⟩) (k24 : PySem.W.keepIn K (.ref f24) = true) (c_24 : PySem.W.codeIn K cd24 "_law_word" = true)
    (a25 : PySem.W.nsIn K mainGlobals "_law_long_word" = some (some (.ref f25))) (l25 : K.lookup f25 = some ⟨oc25, od25, .func (PySem.W.fnOf "_law_long_word" "_law_long_word" (defArgs s_long_word) (defBody s_long_word) (defScope s_long_word) .none kV25 dc25 pm25 an25 cd25 ct25), sl25⟩) (k25 : PySem.W.keepIn K (.ref f25) = true) (c_25 : PySem.W.codeIn K cd25 "_law_long_word" = true)
    (a26 : PySem.W.nsIn K mainGlobals "_law_arc" = some (some (.ref f26))) (l26 : K.lookup f26 = some ⟨oc26, od26, .func (PySem.W.fnOf "_law_arc" "_law_arc" (defArgs s_arc) (defBody s_arc) (defScope s_arc) .none kV26 dc26 pm26 an26 cd26 ct26), sl26⟩) (k26 : PySem.W.keepIn K (.ref f26) = true) (c_26 : PySem.W.codeIn K cd26 "_law_arc" = true)
    (a27 : PySem.W.nsIn K mainGlobals "_law_same" = some (some (.ref f27))) (l27 : K.lookup f27 = some ⟨oc27, od27, .func (PySem.W.fnOf "_law_same" "_law_same" (defArgs s_same) (defBody s_same) (defScope s_same) .none kV27 dc27 pm27 an27 cd27 ct27), sl27⟩) (k27 : PySem.W.keepIn K (.ref f27) = true) (c_27 : PySem.W.codeIn K cd27 "_law_same" = true)
    (a28 : PySem.W.nsIn K mainGlobals "_law_copy" = some (some (.ref f28))) (l28 : K.lookup f28 = some ⟨oc28, od28, .func (PySem.W.fnOf "_law_copy" "_law_copy" (defArgs s_copy) (defBody s_copy) (defScope s_copy) .none kV28 dc28 pm28 an28 cd28 ct28), sl28⟩) (k28 : PySem.W.keepIn K (.ref f28) = true) (c_28 : PySem.W.codeIn K cd28 "_law_copy" = true)
    (a29 : PySem.W.nsIn K mainGlobals "_law_refusal" = some (some (.ref f29))) (l29 : K.lookup f29 = some ⟨oc29, od29, .func (PySem.W.fnOf "_law_refusal" "_law_refusal" (defArgs s_refusal) (defBody s_refusal) (defScope s_refusal) .none kV29 dc29 pm29 an29 cd29 ct29), sl29⟩) (k29 : PySem.W.keepIn K (.ref f29) = true) (c_29 : PySem.W.codeIn K cd29 "_law_refusal" = true)
    (a30 : PySem.W.nsIn K mainGlobals "_law_good_parts" = some (some (.ref f30))) (l30 : K.lookup f30 = some ⟨oc30, od30, .func (PySem.W.fnOf "_law_good_parts" "_law_good_parts" (defArgs s_good_parts) (defBody s_good_parts) (defScope s_good_parts) .none kV30 dc30 pm30 an30 cd30 ct30), sl30⟩) (k30 : PySem.W.keepIn K (.ref f30) = true) (c_30 : PySem.W.codeIn K cd30 "_law_good_parts" = true)
    (a31 : PySem.W.nsIn K mainGlobals "_law_good_entry" = some (some (.ref f31))) (l31 : K.lookup f31 = some ⟨oc31, od31, .func (PySem.W.fnOf "_law_good_entry" "_law_good_entry" (defArgs s_good_entry) (defBody s_good_entry) (defScope s_good_entry) .none kV31 dc31 pm31 an31 cd31 ct31), sl31⟩) (k31 : PySem.W.keepIn K (.ref f31) = true) (c_31 : PySem.W.codeIn K cd31 "_law_good_entry" = true)
    (a32 : PySem.W.nsIn K mainGlobals "_law_wrong_number" = some (some (.ref f32))) (l32 : K.lookup f32 = some ⟨oc32, od32, .func (PySem.W.fnOf "_law_wrong_number" "_law_wrong_number" (defArgs s_wrong_number) (defBody s_wrong_number) (defScope s_wrong_number) .none kV32 dc32 pm32 an32 cd32 ct32), sl32⟩) (k32 : PySem.W.keepIn K (.ref f32) = true) (c_32 : PySem.W.codeIn K cd32 "_law_wrong_number" = true)
    (a33 : PySem.W.nsIn K mainGlobals "_law_wrong_letters" = some (some (.ref f33))) (l33 : K.lookup f33 = some ⟨oc33, od33, .func (PySem.W.fnOf "_law_wrong_letters" "_law_wrong_letters" (defArgs s_wrong_letters) (defBody s_wrong_letters) (defScope s_wrong_letters) .none kV33 dc33 pm33 an33 cd33 ct33), sl33⟩) (k33 : PySem.W.keepIn K (.ref f33) = true) (c_33 : PySem.W.codeIn K cd33 "_law_wrong_letters" = true)
    (a34 : PySem.W.nsIn K mainGlobals "_law_wrong_word" = some (some (.ref f34))) (l34 : K.lookup f34 = some ⟨oc34, od34, .func (PySem.W.fnOf "_law_wrong_word" "_law_wrong_word" (defArgs s_wrong_word) (defBody s_wrong_word) (defScope s_wrong_word) .none kV34 dc34 pm34 an34 cd34 ct34), sl34⟩) (k34 : PySem.W.keepIn K (.ref f34) = true) (c_34 : PySem.W.codeIn K cd34 "_law_wrong_word" = true)
    (a35 : PySem.W.nsIn K mainGlobals "_law_wrong_letter" = some (some (.ref f35))) (l35 : K.lookup f35 = some ⟨oc35, od35, .func (PySem.W.fnOf "_law_wrong_letter" "_law_wrong_letter" (defArgs s_wrong_letter) (defBody s_wrong_letter) (defScope s_wrong_letter) .none kV35 dc35 pm35 an35 cd35 ct35), sl35⟩) (k35 : PySem.W.keepIn K (.ref f35) = true) (c_35 : PySem.W.codeIn K cd35 "_law_wrong_letter" = true)
    (a36 : PySem.W.nsIn K mainGlobals "_law_wrong_entry" = some (some (.ref f36))) (l36 : K.lookup f36 = some ⟨oc36, od36, .func (PySem.W.fnOf "_law_wrong_entry" "_law_wrong_entry" (defArgs s_wrong_entry) (defBody s_wrong_entry) (defScope s_wrong_entry) .none kV36 dc36 pm36 an36 cd36 ct36), sl36⟩) (k36 : PySem.W.keepIn K (.ref f36) = true) (c_36 : PySem.W.codeIn K cd36 "_law_wrong_entry" = true)
    (a37 : PySem.W.nsIn K mainGlobals "_law_spoilt" = some (some (.ref f37))) (l37 : K.lookup f37 = some ⟨oc37, od37, .func (PySem.W.fnOf "_law_spoilt" "_law_spoilt" (defArgs s_spoilt) (defBody s_spoilt) (defScope s_spoilt) .none kV37 dc37 pm37 an37 cd37 ct37), sl37⟩) (k37 : PySem.W.keepIn K (.ref f37) = true) (c_37 : PySem.W.codeIn K cd37 "_law_spoilt" = true)
    (a38 : PySem.W.nsIn K mainGlobals "_law_made" = some (some (.ref f38))) (l38 : K.lookup f38 = some ⟨oc38, od38, .func (PySem.W.fnOf "_law_made" "_law_made" (defArgs s_made) (defBody s_made) (defScope s_made) .none kV38 dc38 pm38 an38 cd38 ct38), sl38⟩) (k38 : PySem.W.keepIn K (.ref f38) = true) (c_38 : PySem.W.codeIn K cd38 "_law_made" = true)
    (a39 : PySem.W.nsIn K mainGlobals "_law_order_key" = some (some (.ref f39))) (l39 : K.lookup f39 = some ⟨oc39, od39, .func (PySem.W.fnOf "_law_order_key" "_law_order_key" (defArgs s_order_key) (defBody s_order_key) (defScope s_order_key) .none kV39 dc39 pm39 an39 cd39 ct39), sl39⟩) (k39 : PySem.W.keepIn K (.ref f39) = true) (c_39 : PySem.W.codeIn K cd39 "_law_order_key" = true)
    (a40 : PySem.W.nsIn K mainGlobals "_law_told_right" = some (some (.ref f40))) (l40 : K.lookup f40 = some ⟨oc40, od40, .func (PySem.W.fnOf "_law_told_right" "_law_told_right" (defArgs s_told_right) (defBody s_told_right) (defScope s_told_right) .none kV40 dc40 pm40 an40 cd40 ct40), sl40⟩) (k40 : PySem.W.keepIn K (.ref f40) = true) (c_40 : PySem.W.codeIn K cd40 "_law_told_right" = true)
    (a41 : PySem.W.nsIn K mainGlobals "_law_refused_right" = some (some (.ref f41))) (l41 : K.lookup f41 = some ⟨oc41, od41, .func (PySem.W.fnOf "_law_refused_right" "_law_refused_right" (defArgs s_refused_right) (defBody s_refused_right) (defScope s_refused_right) .none kV41 dc41 pm41 an41 (.ref c41) ct41), sl41⟩) (k41 : PySem.W.keepIn K (.ref f41) = true) (c_41 : PySem.W.codeIn K (.ref c41) "_law_refused_right" = true)
    (r41 : K.lookup c41 = some ⟨ve41, vd41, .fields vs41, vl41⟩) (p41 : vs41[11]? = some (.ref P41)) (n41 : K.lookup P41 = none)
    (h41 : PySem.W.codeHdIn K c41 P41 = true) (y41 : Str.ofString "_law_refused_right" ∈ names)
    (a42 : PySem.W.nsIn K mainGlobals "_law_mended_right" = some (some (.ref f42))) (l42 : K.lookup f42 = some ⟨oc42, od42, .func (PySem.W.fnOf "_law_mended_right" "_law_mended_right" (defArgs s_mended_right) (defBody s_mended_right) (defScope s_mended_right) .none kV42 dc42 pm42 an42 cd42 ct42), sl42⟩) (k42 : PySem.W.keepIn K (.ref f42) = true) (c_42 : PySem.W.codeIn K cd42 "_law_mended_right" = true)
    (a43 : PySem.W.nsIn K mainGlobals "law" = some (some (.ref f43))) (l43 : K.lookup f43 = some ⟨oc43, od43, .func (PySem.W.fnOf "law" "law" (defArgs s_law) (defBody s_law) (defScope s_law) .none kV43 dc43 pm43 an43 (.ref c43) ct43), sl43⟩) (k43 : PySem.W.keepIn K (.ref f43) = true) (c_43 : PySem.W.codeIn K (.ref c43) "law" = true)
    (r43 : K.lookup c43 = some ⟨ve43, vd43, .fields vs43, vl43⟩) (p43 : vs43[11]? = some (.ref P43)) (n43 : K.lookup P43 = none)
    (h43 : PySem.W.codeHdIn K c43 P43 = true) (y43 : Str.ofString "law" ∈ names)
    {eC0 eC1 eI1 eC2 eI2 eC3 eI3 eC4 eI4 eC5 eI5 eC6 eI6 eC7 eC8 eI8 : Addr}
    (sp1 : PySem.W.specialIn K (.builtin "object.__class__") "__get__" = some (some (.builtin "getset_descriptor.__get__"))) (sp2 : PySem.W.takesIn K (.builtin "object.__class__") = some true)
    (ea0 : PySem.W.nsIn K mainGlobals "LagError" = some (some (.ref eC0))) {enm0 : _} {eq0 : _} {eN0 : _} {ebs0 : _} {ebm0 : _} {esn0 : _} {esub0 : _} {eab0 : _} {ecol0 : _} {edd0 : _} {ek00 : _} {ek10 : _} {ek20 : _} {ek30 : _} {ek50 : _} (el0 : K.lookup eC0 = some (excClassObj enm0 eq0 eC0 eN0 ebs0 ebm0 true esn0 esub0 eab0 ecol0 edd0 ek00 ek10 ek20 ek30 ek50 "ValueError.__new__")) (er0 : PySem.HandSPX.refsVE ebm0 = true)
    (esa0 : PySem.W.findIn K (.ref eC0) "__setattr__" = some (some (.builtin "object.__setattr__")))
    (eex0 : PySem.W.subIn K (.ref eC0) (.type "BaseException") = some true)
    (ety0 : PySem.W.typeIn K (.ref eC0) = some (.type "type"))
    (ekp0 : PySem.W.keepIn K (.ref eC0) = true)
    (ega0 : PySem.W.findIn K (.ref eC0) "__getattribute__" = some (some (.builtin "BaseException.__getattribute__")))
    (egg0 : PySem.W.findIn K (.ref eC0) "__getattr__" = some none)
    (ehd0 : PySem.W.hasDictIn K eC0 = true)
    (eca0 : PySem.W.findIn K (.ref eC0) "__class__" = some (some (.builtin "object.__class__")))
    (emr0 : PySem.W.mroIn K eC0 (.type "object") = some true)
    (ea1 : PySem.W.nsIn K mainGlobals "BadLetters" = some (some (.ref eC1))) {enm1 : _} {eq1 : _} {eN1 : _} {ebs1 : _} {ebm1 : _} {esn1 : _} {esub1 : _} {eab1 : _} {ecol1 : _} {edd1 : _} {ek01 : _} {ek11 : _} {ek21 : _} {ek31 : _} {ek51 : _} (el1 : K.lookup eC1 = some (excClassObj enm1 eq1 eC1 eN1 ebs1 ebm1 true esn1 esub1 eab1 ecol1 edd1 ek01 ek11 ek21 ek31 ek51 "ValueError.__new__")) (er1 : PySem.HandSPX.refsVE ebm1 = true)
    (esa1 : PySem.W.findIn K (.ref eC1) "__setattr__" = some (some (.builtin "object.__setattr__")))
    (eex1 : PySem.W.subIn K (.ref eC1) (.type "BaseException") = some true)
    (ety1 : PySem.W.typeIn K (.ref eC1) = some (.type "type"))
    (ekp1 : PySem.W.keepIn K (.ref eC1) = true)
    (ega1 : PySem.W.findIn K (.ref eC1) "__getattribute__" = some (some (.builtin "BaseException.__getattribute__")))
    (egg1 : PySem.W.findIn K (.ref eC1) "__getattr__" = some none)
    (ehd1 : PySem.W.hasDictIn K eC1 = true)
    (eca1 : PySem.W.findIn K (.ref eC1) "__class__" = some (some (.builtin "object.__class__")))
    (emr1 : PySem.W.mroIn K eC1 (.type "object") = some true)
    {eod1 ean1 : Option Addr} {esl1 : Array (Option Value)} {eoc1 ekV1 edc1 epm1 ecd1 ect1 : Value} (iI1 : PySem.W.findIn K (.ref eC1) "__init__" = some (some (.ref eI1))) (tI1 : PySem.W.typeIn K (.ref eI1) = some (.type "function"))
    (lI1 : K.lookup eI1 = some ⟨eoc1, eod1, .func (PySem.W.fnOf "__init__" "BadLetters.__init__" (defArgs si_BadLetters) (defBody si_BadLetters) (defScope si_BadLetters) .none ekV1 edc1 epm1 ean1 ecd1 ect1), esl1⟩) (cI1 : PySem.W.codeIn K ecd1 "BadLetters.__init__" = true) (kI1 : PySem.W.keepIn K (.ref eI1) = true)
    (eno1_value : PySem.W.findIn K (.ref eC1) "value" = some none)
    (ea2 : PySem.W.nsIn K mainGlobals "BadWord" = some (some (.ref eC2))) {enm2 : _} {eq2 : _} {eN2 : _} {ebs2 : _} {ebm2 : _} {esn2 : _} {esub2 : _} {eab2 : _} {ecol2 : _} {edd2 : _} {ek02 : _} {ek12 : _} {ek22 : _} {ek32 : _} {ek52 : _} (el2 : K.lookup eC2 = some (excClassObj enm2 eq2 eC2 eN2 ebs2 ebm2 true esn2 esub2 eab2 ecol2 edd2 ek02 ek12 ek22 ek32 ek52 "ValueError.__new__")) (er2 : PySem.HandSPX.refsVE ebm2 = true)
    (esa2 : PySem.W.findIn K (.ref eC2) "__setattr__" = some (some (.builtin "object.__setattr__")))
    (eex2 : PySem.W.subIn K (.ref eC2) (.type "BaseException") = some true)
    (ety2 : PySem.W.typeIn K (.ref eC2) = some (.type "type"))
    (ekp2 : PySem.W.keepIn K (.ref eC2) = true)
    (ega2 : PySem.W.findIn K (.ref eC2) "__getattribute__" = some (some (.builtin "BaseException.__getattribute__")))
    (egg2 : PySem.W.findIn K (.ref eC2) "__getattr__" = some none)
    (ehd2 : PySem.W.hasDictIn K eC2 = true)
    (eca2 : PySem.W.findIn K (.ref eC2) "__class__" = some (some (.builtin "object.__class__")))
    (emr2 : PySem.W.mroIn K eC2 (.type "object") = some true)
    {eod2 ean2 : Option Addr} {esl2 : Array (Option Value)} {eoc2 ekV2 edc2 epm2 ecd2 ect2 : Value} (iI2 : PySem.W.findIn K (.ref eC2) "__init__" = some (some (.ref eI2))) (tI2 : PySem.W.typeIn K (.ref eI2) = some (.type "function"))
    (lI2 : K.lookup eI2 = some ⟨eoc2, eod2, .func (PySem.W.fnOf "__init__" "BadWord.__init__" (defArgs si_BadWord) (defBody si_BadWord) (defScope si_BadWord) .none ekV2 edc2 epm2 ean2 ecd2 ect2), esl2⟩) (cI2 : PySem.W.codeIn K ecd2 "BadWord.__init__" = true) (kI2 : PySem.W.keepIn K (.ref eI2) = true)
    (eno2_value : PySem.W.findIn K (.ref eC2) "value" = some none)
    (ea3 : PySem.W.nsIn K mainGlobals "BadNumber" = some (some (.ref eC3))) {enm3 : _} {eq3 : _} {eN3 : _} {ebs3 : _} {ebm3 : _} {esn3 : _} {esub3 : _} {eab3 : _} {ecol3 : _} {edd3 : _} {ek03 : _} {ek13 : _} {ek23 : _} {ek33 : _} {ek53 : _} (el3 : K.lookup eC3 = some (excClassObj enm3 eq3 eC3 eN3 ebs3 ebm3 true esn3 esub3 eab3 ecol3 edd3 ek03 ek13 ek23 ek33 ek53 "ValueError.__new__")) (er3 : PySem.HandSPX.refsVE ebm3 = true)
    (esa3 : PySem.W.findIn K (.ref eC3) "__setattr__" = some (some (.builtin "object.__setattr__")))
    (eex3 : PySem.W.subIn K (.ref eC3) (.type "BaseException") = some true)
    (ety3 : PySem.W.typeIn K (.ref eC3) = some (.type "type"))
    (ekp3 : PySem.W.keepIn K (.ref eC3) = true)
    (ega3 : PySem.W.findIn K (.ref eC3) "__getattribute__" = some (some (.builtin "BaseException.__getattribute__")))
    (egg3 : PySem.W.findIn K (.ref eC3) "__getattr__" = some none)
    (ehd3 : PySem.W.hasDictIn K eC3 = true)
    (eca3 : PySem.W.findIn K (.ref eC3) "__class__" = some (some (.builtin "object.__class__")))
    (emr3 : PySem.W.mroIn K eC3 (.type "object") = some true)
    {eod3 ean3 : Option Addr} {esl3 : Array (Option Value)} {eoc3 ekV3 edc3 epm3 ecd3 ect3 : Value} (iI3 : PySem.W.findIn K (.ref eC3) "__init__" = some (some (.ref eI3))) (tI3 : PySem.W.typeIn K (.ref eI3) = some (.type "function"))
    (lI3 : K.lookup eI3 = some ⟨eoc3, eod3, .func (PySem.W.fnOf "__init__" "BadNumber.__init__" (defArgs si_BadNumber) (defBody si_BadNumber) (defScope si_BadNumber) .none ekV3 edc3 epm3 ean3 ecd3 ect3), esl3⟩) (cI3 : PySem.W.codeIn K ecd3 "BadNumber.__init__" = true) (kI3 : PySem.W.keepIn K (.ref eI3) = true)
    (eno3_value : PySem.W.findIn K (.ref eC3) "value" = some none)
    (ea4 : PySem.W.nsIn K mainGlobals "BadName" = some (some (.ref eC4))) {enm4 : _} {eq4 : _} {eN4 : _} {ebs4 : _} {ebm4 : _} {esn4 : _} {esub4 : _} {eab4 : _} {ecol4 : _} {edd4 : _} {ek04 : _} {ek14 : _} {ek24 : _} {ek34 : _} {ek54 : _} (el4 : K.lookup eC4 = some (excClassObj enm4 eq4 eC4 eN4 ebs4 ebm4 true esn4 esub4 eab4 ecol4 edd4 ek04 ek14 ek24 ek34 ek54 "ValueError.__new__")) (er4 : PySem.HandSPX.refsVE ebm4 = true)
    (esa4 : PySem.W.findIn K (.ref eC4) "__setattr__" = some (some (.builtin "object.__setattr__")))
    (eex4 : PySem.W.subIn K (.ref eC4) (.type "BaseException") = some true)
    (ety4 : PySem.W.typeIn K (.ref eC4) = some (.type "type"))
    (ekp4 : PySem.W.keepIn K (.ref eC4) = true)
    (ega4 : PySem.W.findIn K (.ref eC4) "__getattribute__" = some (some (.builtin "BaseException.__getattribute__")))
    (egg4 : PySem.W.findIn K (.ref eC4) "__getattr__" = some none)
    (ehd4 : PySem.W.hasDictIn K eC4 = true)
    (eca4 : PySem.W.findIn K (.ref eC4) "__class__" = some (some (.builtin "object.__class__")))
    (emr4 : PySem.W.mroIn K eC4 (.type "object") = some true)
    {eod4 ean4 : Option Addr} {esl4 : Array (Option Value)} {eoc4 ekV4 edc4 epm4 ecd4 ect4 : Value} (iI4 : PySem.W.findIn K (.ref eC4) "__init__" = some (some (.ref eI4))) (tI4 : PySem.W.typeIn K (.ref eI4) = some (.type "function"))
    (lI4 : K.lookup eI4 = some ⟨eoc4, eod4, .func (PySem.W.fnOf "__init__" "BadName.__init__" (defArgs si_BadName) (defBody si_BadName) (defScope si_BadName) .none ekV4 edc4 epm4 ean4 ecd4 ect4), esl4⟩) (cI4 : PySem.W.codeIn K ecd4 "BadName.__init__" = true) (kI4 : PySem.W.keepIn K (.ref eI4) = true)
    (eno4_value : PySem.W.findIn K (.ref eC4) "value" = some none)
    (ea5 : PySem.W.nsIn K mainGlobals "BadEntry" = some (some (.ref eC5))) {enm5 : _} {eq5 : _} {eN5 : _} {ebs5 : _} {ebm5 : _} {esn5 : _} {esub5 : _} {eab5 : _} {ecol5 : _} {edd5 : _} {ek05 : _} {ek15 : _} {ek25 : _} {ek35 : _} {ek55 : _} (el5 : K.lookup eC5 = some (excClassObj enm5 eq5 eC5 eN5 ebs5 ebm5 true esn5 esub5 eab5 ecol5 edd5 ek05 ek15 ek25 ek35 ek55 "ValueError.__new__")) (er5 : PySem.HandSPX.refsVE ebm5 = true)
    (esa5 : PySem.W.findIn K (.ref eC5) "__setattr__" = some (some (.builtin "object.__setattr__")))
    (eex5 : PySem.W.subIn K (.ref eC5) (.type "BaseException") = some true)
    (ety5 : PySem.W.typeIn K (.ref eC5) = some (.type "type"))
    (ekp5 : PySem.W.keepIn K (.ref eC5) = true)
    (ega5 : PySem.W.findIn K (.ref eC5) "__getattribute__" = some (some (.builtin "BaseException.__getattribute__")))
    (egg5 : PySem.W.findIn K (.ref eC5) "__getattr__" = some none)
    (ehd5 : PySem.W.hasDictIn K eC5 = true)
    (eca5 : PySem.W.findIn K (.ref eC5) "__class__" = some (some (.builtin "object.__class__")))
    (emr5 : PySem.W.mroIn K eC5 (.type "object") = some true)
    {eod5 ean5 : Option Addr} {esl5 : Array (Option Value)} {eoc5 ekV5 edc5 epm5 ecd5 ect5 : Value} (iI5 : PySem.W.findIn K (.ref eC5) "__init__" = some (some (.ref eI5))) (tI5 : PySem.W.typeIn K (.ref eI5) = some (.type "function"))
    (lI5 : K.lookup eI5 = some ⟨eoc5, eod5, .func (PySem.W.fnOf "__init__" "BadEntry.__init__" (defArgs si_BadEntry) (defBody si_BadEntry) (defScope si_BadEntry) .none ekV5 edc5 epm5 ean5 ecd5 ect5), esl5⟩) (cI5 : PySem.W.codeIn K ecd5 "BadEntry.__init__" = true) (kI5 : PySem.W.keepIn K (.ref eI5) = true)
    (eno5_place : PySem.W.findIn K (.ref eC5) "place" = some none)
    (eno5_index : PySem.W.findIn K (.ref eC5) "index" = some none)
    (ea6 : PySem.W.nsIn K mainGlobals "BadLine" = some (some (.ref eC6))) {enm6 : _} {eq6 : _} {eN6 : _} {ebs6 : _} {ebm6 : _} {esn6 : _} {esub6 : _} {eab6 : _} {ecol6 : _} {edd6 : _} {ek06 : _} {ek16 : _} {ek26 : _} {ek36 : _} {ek56 : _} (el6 : K.lookup eC6 = some (excClassObj enm6 eq6 eC6 eN6 ebs6 ebm6 true esn6 esub6 eab6 ecol6 edd6 ek06 ek16 ek26 ek36 ek56 "ValueError.__new__")) (er6 : PySem.HandSPX.refsVE ebm6 = true)
    (esa6 : PySem.W.findIn K (.ref eC6) "__setattr__" = some (some (.builtin "object.__setattr__")))
    (eex6 : PySem.W.subIn K (.ref eC6) (.type "BaseException") = some true)
    (ety6 : PySem.W.typeIn K (.ref eC6) = some (.type "type"))
    (ekp6 : PySem.W.keepIn K (.ref eC6) = true)
    (ega6 : PySem.W.findIn K (.ref eC6) "__getattribute__" = some (some (.builtin "BaseException.__getattribute__")))
    (egg6 : PySem.W.findIn K (.ref eC6) "__getattr__" = some none)
    (ehd6 : PySem.W.hasDictIn K eC6 = true)
    (eca6 : PySem.W.findIn K (.ref eC6) "__class__" = some (some (.builtin "object.__class__")))
    (emr6 : PySem.W.mroIn K eC6 (.type "object") = some true)
    {eod6 ean6 : Option Addr} {esl6 : Array (Option Value)} {eoc6 ekV6 edc6 epm6 ecd6 ect6 : Value} (iI6 : PySem.W.findIn K (.ref eC6) "__init__" = some (some (.ref eI6))) (tI6 : PySem.W.typeIn K (.ref eI6) = some (.type "function"))
    (lI6 : K.lookup eI6 = some ⟨eoc6, eod6, .func (PySem.W.fnOf "__init__" "BadLine.__init__" (defArgs si_BadLine) (defBody si_BadLine) (defScope si_BadLine) .none ekV6 edc6 epm6 ean6 ecd6 ect6), esl6⟩) (cI6 : PySem.W.codeIn K ecd6 "BadLine.__init__" = true) (kI6 : PySem.W.keepIn K (.ref eI6) = true)
    (eno6_line : PySem.W.findIn K (.ref eC6) "line" = some none)
    (eno6_place : PySem.W.findIn K (.ref eC6) "place" = some none)
    (ea7 : PySem.W.nsIn K mainGlobals "Mismatch" = some (some (.ref eC7))) {enm7 : _} {eq7 : _} {eN7 : _} {ebs7 : _} {ebm7 : _} {esn7 : _} {esub7 : _} {eab7 : _} {ecol7 : _} {edd7 : _} {ek07 : _} {ek17 : _} {ek27 : _} {ek37 : _} {ek57 : _} (el7 : K.lookup eC7 = some (excClassObj enm7 eq7 eC7 eN7 ebs7 ebm7 true esn7 esub7 eab7 ecol7 edd7 ek07 ek17 ek27 ek37 ek57 "ValueError.__new__")) (er7 : PySem.HandSPX.refsVE ebm7 = true)
    (esa7 : PySem.W.findIn K (.ref eC7) "__setattr__" = some (some (.builtin "object.__setattr__")))
    (eex7 : PySem.W.subIn K (.ref eC7) (.type "BaseException") = some true)
    (ety7 : PySem.W.typeIn K (.ref eC7) = some (.type "type"))
    (ekp7 : PySem.W.keepIn K (.ref eC7) = true)
    (ega7 : PySem.W.findIn K (.ref eC7) "__getattribute__" = some (some (.builtin "BaseException.__getattribute__")))
    (egg7 : PySem.W.findIn K (.ref eC7) "__getattr__" = some none)
    (ehd7 : PySem.W.hasDictIn K eC7 = true)
    (eca7 : PySem.W.findIn K (.ref eC7) "__class__" = some (some (.builtin "object.__class__")))
    (emr7 : PySem.W.mroIn K eC7 (.type "object") = some true)
    (ea8 : PySem.W.nsIn K mainGlobals "TooLarge" = some (some (.ref eC8))) {enm8 : _} {eq8 : _} {eN8 : _} {ebs8 : _} {ebm8 : _} {esn8 : _} {esub8 : _} {eab8 : _} {ecol8 : _} {edd8 : _} {ek08 : _} {ek18 : _} {ek28 : _} {ek38 : _} {ek58 : _} (el8 : K.lookup eC8 = some (excClassObj enm8 eq8 eC8 eN8 ebs8 ebm8 true esn8 esub8 eab8 ecol8 edd8 ek08 ek18 ek28 ek38 ek58 "ValueError.__new__")) (er8 : PySem.HandSPX.refsVE ebm8 = true)
    (esa8 : PySem.W.findIn K (.ref eC8) "__setattr__" = some (some (.builtin "object.__setattr__")))
    (eex8 : PySem.W.subIn K (.ref eC8) (.type "BaseException") = some true)
    (ety8 : PySem.W.typeIn K (.ref eC8) = some (.type "type"))
    (ekp8 : PySem.W.keepIn K (.ref eC8) = true)
    (ega8 : PySem.W.findIn K (.ref eC8) "__getattribute__" = some (some (.builtin "BaseException.__getattribute__")))
    (egg8 : PySem.W.findIn K (.ref eC8) "__getattr__" = some none)
    (ehd8 : PySem.W.hasDictIn K eC8 = true)
    (eca8 : PySem.W.findIn K (.ref eC8) "__class__" = some (some (.builtin "object.__class__")))
    (emr8 : PySem.W.mroIn K eC8 (.type "object") = some true)
    {eod8 ean8 : Option Addr} {esl8 : Array (Option Value)} {eoc8 ekV8 edc8 epm8 ecd8 ect8 : Value} (iI8 : PySem.W.findIn K (.ref eC8) "__init__" = some (some (.ref eI8))) (tI8 : PySem.W.typeIn K (.ref eI8) = some (.type "function"))
    (lI8 : K.lookup eI8 = some ⟨eoc8, eod8, .func (PySem.W.fnOf "__init__" "TooLarge.__init__" (defArgs si_TooLarge) (defBody si_TooLarge) (defScope si_TooLarge) .none ekV8 edc8 epm8 ean8 ecd8 ect8), esl8⟩) (cI8 : PySem.W.codeIn K ecd8 "TooLarge.__init__" = true) (kI8 : PySem.W.keepIn K (.ref eI8) = true)
    (eno8_what : PySem.W.findIn K (.ref eC8) "what" = some none)
    (eno8_limit : PySem.W.findIn K (.ref eC8) "limit" = some none)
    (cl_BadLetters : PySem.W.isClsIn K eC1 = true) (ss_BadLetters : PySem.W.subIn K (.ref eC1) (.ref eC1) = some true)
    (cl_BadNumber : PySem.W.isClsIn K eC3 = true) (ss_BadNumber : PySem.W.subIn K (.ref eC3) (.ref eC3) = some true)
    (cl_BadEntry : PySem.W.isClsIn K eC5 = true) (ss_BadEntry : PySem.W.subIn K (.ref eC5) (.ref eC5) = some true)
    (cl_TooLarge : PySem.W.isClsIn K eC8 = true) (ss_TooLarge : PySem.W.subIn K (.ref eC8) (.ref eC8) = some true)
    (cl_BadWord : PySem.W.isClsIn K eC2 = true) (ss_BadWord : PySem.W.subIn K (.ref eC2) (.ref eC2) = some true)
    (cl_BadName : PySem.W.isClsIn K eC4 = true) (ss_BadName : PySem.W.subIn K (.ref eC4) (.ref eC4) = some true)
    (cl_BadLine : PySem.W.isClsIn K eC6 = true) (ss_BadLine : PySem.W.subIn K (.ref eC6) (.ref eC6) = some true)
    (cl_Mismatch : PySem.W.isClsIn K eC7 = true) (ss_Mismatch : PySem.W.subIn K (.ref eC7) (.ref eC7) = some true)
    (cl_LagError : PySem.W.isClsIn K eC0 = true) (ss_LagError : PySem.W.subIn K (.ref eC0) (.ref eC0) = some true)
    (s_BadNumber_BadLetters : PySem.W.subIn K (.ref eC3) (.ref eC1) = some false)
    (s_BadNumber_BadEntry : PySem.W.subIn K (.ref eC3) (.ref eC5) = some false)
    (s_BadNumber_TooLarge : PySem.W.subIn K (.ref eC3) (.ref eC8) = some false)
    (s_BadNumber_BadWord : PySem.W.subIn K (.ref eC3) (.ref eC2) = some false)
    (s_BadNumber_BadName : PySem.W.subIn K (.ref eC3) (.ref eC4) = some false)
    (s_BadNumber_BadLine : PySem.W.subIn K (.ref eC3) (.ref eC6) = some false)
    (s_BadNumber_Mismatch : PySem.W.subIn K (.ref eC3) (.ref eC7) = some false)
    (s_BadNumber_ValueError : PySem.W.subIn K (.ref eC3) (.type "ValueError") = some true)
    (s_BadNumber_LagError : PySem.W.subIn K (.ref eC3) (.ref eC0) = some true)
    (s_BadLetters_BadNumber : PySem.W.subIn K (.ref eC1) (.ref eC3) = some false)
    (s_BadLetters_BadEntry : PySem.W.subIn K (.ref eC1) (.ref eC5) = some false)
    (s_BadLetters_TooLarge : PySem.W.subIn K (.ref eC1) (.ref eC8) = some false)
    (s_BadLetters_BadWord : PySem.W.subIn K (.ref eC1) (.ref eC2) = some false)
    (s_BadLetters_BadName : PySem.W.subIn K (.ref eC1) (.ref eC4) = some false)
    (s_BadLetters_BadLine : PySem.W.subIn K (.ref eC1) (.ref eC6) = some false)
    (s_BadLetters_Mismatch : PySem.W.subIn K (.ref eC1) (.ref eC7) = some false)
    (s_BadLetters_ValueError : PySem.W.subIn K (.ref eC1) (.type "ValueError") = some true)
    (s_BadLetters_LagError : PySem.W.subIn K (.ref eC1) (.ref eC0) = some true)
    (s_BadEntry_BadLetters : PySem.W.subIn K (.ref eC5) (.ref eC1) = some false)
    (s_BadEntry_BadNumber : PySem.W.subIn K (.ref eC5) (.ref eC3) = some false)
    (s_BadEntry_TooLarge : PySem.W.subIn K (.ref eC5) (.ref eC8) = some false)
    (s_BadEntry_BadWord : PySem.W.subIn K (.ref eC5) (.ref eC2) = some false)
    (s_BadEntry_BadName : PySem.W.subIn K (.ref eC5) (.ref eC4) = some false)
    (s_BadEntry_BadLine : PySem.W.subIn K (.ref eC5) (.ref eC6) = some false)
    (s_BadEntry_Mismatch : PySem.W.subIn K (.ref eC5) (.ref eC7) = some false)
    (s_BadEntry_ValueError : PySem.W.subIn K (.ref eC5) (.type "ValueError") = some true)
    (s_BadEntry_LagError : PySem.W.subIn K (.ref eC5) (.ref eC0) = some true)
    (s_TooLarge_BadLetters : PySem.W.subIn K (.ref eC8) (.ref eC1) = some false)
    (s_TooLarge_BadNumber : PySem.W.subIn K (.ref eC8) (.ref eC3) = some false)
    (s_TooLarge_BadEntry : PySem.W.subIn K (.ref eC8) (.ref eC5) = some false)
    (s_TooLarge_BadWord : PySem.W.subIn K (.ref eC8) (.ref eC2) = some false)
    (s_TooLarge_BadName : PySem.W.subIn K (.ref eC8) (.ref eC4) = some false)
    (s_TooLarge_BadLine : PySem.W.subIn K (.ref eC8) (.ref eC6) = some false)
    (s_TooLarge_Mismatch : PySem.W.subIn K (.ref eC8) (.ref eC7) = some false)
    (s_TooLarge_ValueError : PySem.W.subIn K (.ref eC8) (.type "ValueError") = some true)
    (s_TooLarge_LagError : PySem.W.subIn K (.ref eC8) (.ref eC0) = some true)
    {oC0 : Addr} (oa0 : PySem.W.nsIn K mainGlobals "Machine" = some (some (.ref oC0))) (opg0 : PySem.W.plainGet K oC0 Str.empty = true) (ohd0 : PySem.W.hasDictIn K oC0 = true) (opo0 : PySem.W.plainOver K oC0 = true) (osa0 : PySem.W.findIn K (.ref oC0) "__setattr__" = some (some (.builtin "object.__setattr__"))) (omk0 : PySem.W.makesIn K oC0 = true) (okc0 : PySem.W.keepIn K (.ref oC0) = true)
    (on0__read : PySem.W.findIn K (.ref oC0) "_read" = some none)
    (on0__write : PySem.W.findIn K (.ref oC0) "_write" = some none)
    (on0__size : PySem.W.findIn K (.ref oC0) "_size" = some none)
    (on0__begins : PySem.W.findIn K (.ref oC0) "_begins" = some none)
    (on0__arcs : PySem.W.findIn K (.ref oC0) "_arcs" = some none)
    (on0__ends : PySem.W.findIn K (.ref oC0) "_ends" = some none)
    {mf0 : Addr} {mod0 man0 : Option Addr} {msl0 : Array (Option Value)} {moc0  mdc0 mpm0 mcd0 mct0 : Value} {mD0 : Addr}
    (ma0 : PySem.W.findIn K (.ref oC0) "__init__" = some (some (.ref mf0)))
    (mi0 : PySem.W.isFn K (.ref mf0) = true)
    (ml0 : K.lookup mf0 = some ⟨moc0, mod0, .func (PySem.W.fnOf "__init__" "Machine.__init__" (defArgs s_Machine___init__) (defBody s_Machine___init__) (defScope s_Machine___init__) .none (.ref mD0) mdc0 mpm0 man0 mcd0 mct0), msl0⟩) (mc0 : PySem.W.codeIn K mcd0 "Machine.__init__" = true) (mk0 : PySem.W.keepIn K (.ref mf0) = true)
    {mt0_begins : Addr} {mtd0_begins : Option Addr} {mtn0_begins : Nat} {mts0_begins : Array (Option Value)} (mq0_begins : PySem.W.nsIn K mD0 "begins" = some (some (.ref mt0_begins))) (mz0_begins : K.lookup mt0_begins = some ⟨.type "tuple", mtd0_begins, .seq #[] mtn0_begins, mts0_begins⟩)
    {mt0_arcs : Addr} {mtd0_arcs : Option Addr} {mtn0_arcs : Nat} {mts0_arcs : Array (Option Value)} (mq0_arcs : PySem.W.nsIn K mD0 "arcs" = some (some (.ref mt0_arcs))) (mz0_arcs : K.lookup mt0_arcs = some ⟨.type "tuple", mtd0_arcs, .seq #[] mtn0_arcs, mts0_arcs⟩)
    {mt0_ends : Addr} {mtd0_ends : Option Addr} {mtn0_ends : Nat} {mts0_ends : Array (Option Value)} (mq0_ends : PySem.W.nsIn K mD0 "ends" = some (some (.ref mt0_ends))) (mz0_ends : K.lookup mt0_ends = some ⟨.type "tuple", mtd0_ends, .seq #[] mtn0_ends, mts0_ends⟩)
    {mf1 : Addr} {mod1 man1 : Option Addr} {msl1 : Array (Option Value)} {moc1 mkV1 mdc1 mpm1 mcd1 mct1 : Value} {mp1 : Addr} {mrest1 : List Value}
    (ma1 : PySem.W.findIn K (.ref oC0) "read" = some (some (.ref mp1)))
    (mgt1 : PySem.W.specialIn K (.ref mp1) "__get__" = some (some (.builtin "property.__get__"))) (mtk1 : PySem.W.takesIn K (.ref mp1) = some true) (mrc1 : PySem.W.recIn K mp1 "property" = some (.ref mf1 :: mrest1))
    (ml1 : K.lookup mf1 = some ⟨moc1, mod1, .func (PySem.W.fnOf "read" "Machine.read" (defArgs s_Machine_read) (defBody s_Machine_read) (defScope s_Machine_read) .none mkV1 mdc1 mpm1 man1 mcd1 mct1), msl1⟩) (mc1 : PySem.W.codeIn K mcd1 "Machine.read" = true) (mk1 : PySem.W.keepIn K (.ref mf1) = true)
    {mf2 : Addr} {mod2 man2 : Option Addr} {msl2 : Array (Option Value)} {moc2 mkV2 mdc2 mpm2 mcd2 mct2 : Value} {mp2 : Addr} {mrest2 : List Value}
    (ma2 : PySem.W.findIn K (.ref oC0) "write" = some (some (.ref mp2)))
    (mgt2 : PySem.W.specialIn K (.ref mp2) "__get__" = some (some (.builtin "property.__get__"))) (mtk2 : PySem.W.takesIn K (.ref mp2) = some true) (mrc2 : PySem.W.recIn K mp2 "property" = some (.ref mf2 :: mrest2))
    (ml2 : K.lookup mf2 = some ⟨moc2, mod2, .func (PySem.W.fnOf "write" "Machine.write" (defArgs s_Machine_write) (defBody s_Machine_write) (defScope s_Machine_write) .none mkV2 mdc2 mpm2 man2 mcd2 mct2), msl2⟩) (mc2 : PySem.W.codeIn K mcd2 "Machine.write" = true) (mk2 : PySem.W.keepIn K (.ref mf2) = true)
    {mf3 : Addr} {mod3 man3 : Option Addr} {msl3 : Array (Option Value)} {moc3 mkV3 mdc3 mpm3 mcd3 mct3 : Value} {mp3 : Addr} {mrest3 : List Value}
    (ma3 : PySem.W.findIn K (.ref oC0) "size" = some (some (.ref mp3)))
    (mgt3 : PySem.W.specialIn K (.ref mp3) "__get__" = some (some (.builtin "property.__get__"))) (mtk3 : PySem.W.takesIn K (.ref mp3) = some true) (mrc3 : PySem.W.recIn K mp3 "property" = some (.ref mf3 :: mrest3))
    (ml3 : K.lookup mf3 = some ⟨moc3, mod3, .func (PySem.W.fnOf "size" "Machine.size" (defArgs s_Machine_size) (defBody s_Machine_size) (defScope s_Machine_size) .none mkV3 mdc3 mpm3 man3 mcd3 mct3), msl3⟩) (mc3 : PySem.W.codeIn K mcd3 "Machine.size" = true) (mk3 : PySem.W.keepIn K (.ref mf3) = true)
    {mf4 : Addr} {mod4 man4 : Option Addr} {msl4 : Array (Option Value)} {moc4 mkV4 mdc4 mpm4 mcd4 mct4 : Value} {mp4 : Addr} {mrest4 : List Value}
    (ma4 : PySem.W.findIn K (.ref oC0) "begins" = some (some (.ref mp4)))
    (mgt4 : PySem.W.specialIn K (.ref mp4) "__get__" = some (some (.builtin "property.__get__"))) (mtk4 : PySem.W.takesIn K (.ref mp4) = some true) (mrc4 : PySem.W.recIn K mp4 "property" = some (.ref mf4 :: mrest4))
    (ml4 : K.lookup mf4 = some ⟨moc4, mod4, .func (PySem.W.fnOf "begins" "Machine.begins" (defArgs s_Machine_begins) (defBody s_Machine_begins) (defScope s_Machine_begins) .none mkV4 mdc4 mpm4 man4 mcd4 mct4), msl4⟩) (mc4 : PySem.W.codeIn K mcd4 "Machine.begins" = true) (mk4 : PySem.W.keepIn K (.ref mf4) = true)
    {mf5 : Addr} {mod5 man5 : Option Addr} {msl5 : Array (Option Value)} {moc5 mkV5 mdc5 mpm5 mcd5 mct5 : Value} {mp5 : Addr} {mrest5 : List Value}
    (ma5 : PySem.W.findIn K (.ref oC0) "arcs" = some (some (.ref mp5)))
    (mgt5 : PySem.W.specialIn K (.ref mp5) "__get__" = some (some (.builtin "property.__get__"))) (mtk5 : PySem.W.takesIn K (.ref mp5) = some true) (mrc5 : PySem.W.recIn K mp5 "property" = some (.ref mf5 :: mrest5))
    (ml5 : K.lookup mf5 = some ⟨moc5, mod5, .func (PySem.W.fnOf "arcs" "Machine.arcs" (defArgs s_Machine_arcs) (defBody s_Machine_arcs) (defScope s_Machine_arcs) .none mkV5 mdc5 mpm5 man5 mcd5 mct5), msl5⟩) (mc5 : PySem.W.codeIn K mcd5 "Machine.arcs" = true) (mk5 : PySem.W.keepIn K (.ref mf5) = true)
    {mf6 : Addr} {mod6 man6 : Option Addr} {msl6 : Array (Option Value)} {moc6 mkV6 mdc6 mpm6 mcd6 mct6 : Value} {mp6 : Addr} {mrest6 : List Value}
    (ma6 : PySem.W.findIn K (.ref oC0) "ends" = some (some (.ref mp6)))
    (mgt6 : PySem.W.specialIn K (.ref mp6) "__get__" = some (some (.builtin "property.__get__"))) (mtk6 : PySem.W.takesIn K (.ref mp6) = some true) (mrc6 : PySem.W.recIn K mp6 "property" = some (.ref mf6 :: mrest6))
    (ml6 : K.lookup mf6 = some ⟨moc6, mod6, .func (PySem.W.fnOf "ends" "Machine.ends" (defArgs s_Machine_ends) (defBody s_Machine_ends) (defScope s_Machine_ends) .none mkV6 mdc6 mpm6 man6 mcd6 mct6), msl6⟩) (mc6 : PySem.W.codeIn K mcd6 "Machine.ends" = true) (mk6 : PySem.W.keepIn K (.ref mf6) = true)
    {mf7 : Addr} {mod7 man7 : Option Addr} {msl7 : Array (Option Value)} {moc7 mkV7 mdc7 mpm7 mcd7 mct7 : Value}
    (ma7 : PySem.W.findIn K (.ref oC0) "__len__" = some (some (.ref mf7)))
    (mi7 : PySem.W.isFn K (.ref mf7) = true)
    (ml7 : K.lookup mf7 = some ⟨moc7, mod7, .func (PySem.W.fnOf "__len__" "Machine.__len__" (defArgs s_Machine___len__) (defBody s_Machine___len__) (defScope s_Machine___len__) .none mkV7 mdc7 mpm7 man7 mcd7 mct7), msl7⟩) (mc7 : PySem.W.codeIn K mcd7 "Machine.__len__" = true) (mk7 : PySem.W.keepIn K (.ref mf7) = true)
    {mf8 : Addr} {mod8 man8 : Option Addr} {msl8 : Array (Option Value)} {moc8 mkV8 mdc8 mpm8 mcd8 mct8 : Value}
    (ma8 : PySem.W.findIn K (.ref oC0) "__iter__" = some (some (.ref mf8)))
    (mi8 : PySem.W.isFn K (.ref mf8) = true)
    (ml8 : K.lookup mf8 = some ⟨moc8, mod8, .func (PySem.W.fnOf "__iter__" "Machine.__iter__" (defArgs s_Machine___iter__) (defBody s_Machine___iter__) (defScope s_Machine___iter__) .none mkV8 mdc8 mpm8 man8 mcd8 mct8), msl8⟩) (mc8 : PySem.W.codeIn K mcd8 "Machine.__iter__" = true) (mk8 : PySem.W.keepIn K (.ref mf8) = true)
    (z_ValueError : PySem.W.nsIn K mainGlobals "ValueError" = some none)
    (z_all : PySem.W.nsIn K mainGlobals "all" = some none)
    (z_bool : PySem.W.nsIn K mainGlobals "bool" = some none)
    (z_enumerate : PySem.W.nsIn K mainGlobals "enumerate" = some none)
    (z_int : PySem.W.nsIn K mainGlobals "int" = some none)
    (z_isinstance : PySem.W.nsIn K mainGlobals "isinstance" = some none)
    (z_iter : PySem.W.nsIn K mainGlobals "iter" = some none)
    (z_len : PySem.W.nsIn K mainGlobals "len" = some none)
    (z_list : PySem.W.nsIn K mainGlobals "list" = some none)
    (z_max : PySem.W.nsIn K mainGlobals "max" = some none)
    (z_min : PySem.W.nsIn K mainGlobals "min" = some none)
    (z_range : PySem.W.nsIn K mainGlobals "range" = some none)
    (z_set : PySem.W.nsIn K mainGlobals "set" = some none)
    (z_sorted : PySem.W.nsIn K mainGlobals "sorted" = some none)
    (z_str : PySem.W.nsIn K mainGlobals "str" = some none)
    (z_tuple : PySem.W.nsIn K mainGlobals "tuple" = some none)
    {t_MAX_LETTERS : Tok} (c_MAX_LETTERS : PySem.W.nsIn K mainGlobals "MAX_LETTERS" = some (some (.int 4 t_MAX_LETTERS)))
    {t_MAX_WRITTEN : Tok} (c_MAX_WRITTEN : PySem.W.nsIn K mainGlobals "MAX_WRITTEN" = some (some (.int 400 t_MAX_WRITTEN)))
    {t_MAX_STATES : Tok} (c_MAX_STATES : PySem.W.nsIn K mainGlobals "MAX_STATES" = some (some (.int 64 t_MAX_STATES)))
    {t_MAX_ENTRIES : Tok} (c_MAX_ENTRIES : PySem.W.nsIn K mainGlobals "MAX_ENTRIES" = some (some (.int 400 t_MAX_ENTRIES)))
    {t_SMALL_LETTERS : Tok} (c_SMALL_LETTERS : PySem.W.nsIn K mainGlobals "SMALL_LETTERS" = some (some (.str "abcdefghijklmnopqrstuvwxyz" t_SMALL_LETTERS)))
    (one : ∀ p ∈ ([(P3, (Str.ofString "is_letters" ++ ".<locals>.") ++ "<genexpr>"), (P5, (Str.ofString "is_word" ++ ".<locals>.") ++ "<genexpr>"), (P41, (Str.ofString "_law_refused_right" ++ ".<locals>.") ++ "<lambda>"), (P43, (Str.ofString "law" ++ ".<locals>.") ++ "<lambda>")] : List (Addr × Str)), ∀ q ∈ ([(P3, (Str.ofString "is_letters" ++ ".<locals>.") ++ "<genexpr>"), (P5, (Str.ofString "is_word" ++ ".<locals>.") ++ "<genexpr>"), (P41, (Str.ofString "_law_refused_right" ++ ".<locals>.") ++ "<lambda>"), (P43, (Str.ofString "law" ++ ".<locals>.") ++ "<lambda>")] : List (Addr × Str)), p.1 = q.1 → p.2 = q.2) : LamX.LawAtS l w K CX0 (22 + 1) 63 "script" mg fa h := by
  have e := hfa.symm.trans (PySem.W.mg_of X G a43)
  cases e
  have F0 := fun_mk (st := s_is_whole) l0 c_0 k0
  have b0 := F0.binds (ps := ["value"]) fun _ _ _ _ _ _ us hl => match us, hl with | [_], _ => rfl
  have F1 := fun_mk (st := s_in_range) l1 c_1 k1
  have b1 := F1.binds (ps := ["value", "low", "high"]) fun _ _ _ _ _ _ us hl => match us, hl with | [_, _, _], _ => rfl
  have F2 := fun_mk (st := s_check_number) l2 c_2 k2
  have b2 := F2.binds (ps := ["value", "low", "high"]) fun _ _ _ _ _ _ us hl => match us, hl with | [_, _, _], _ => rfl
  have F3 := fun_mk (st := s_is_letters) l3 c_3 k3
  have b3 := F3.binds (ps := ["value"]) fun _ _ _ _ _ _ us hl => match us, hl with | [_], _ => rfl
  have F4 := fun_mk (st := s_is_letter) l4 c_4 k4
  have b4 := F4.binds (ps := ["letters", "value"]) fun _ _ _ _ _ _ us hl => match us, hl with | [_, _], _ => rfl
  have F5 := fun_mk (st := s_is_word) l5 c_5 k5
  have b5 := F5.binds (ps := ["letters", "value"]) fun _ _ _ _ _ _ us hl => match us, hl with | [_, _], _ => rfl
  have F6 := fun_mk (st := s_is_word_up_to) l6 c_6 k6
  have b6 := F6.binds (ps := ["letters", "value", "most"]) fun _ _ _ _ _ _ us hl => match us, hl with | [_, _, _], _ => rfl
  have F7 := fun_mk (st := s_check_letters) l7 c_7 k7
  have b7 := F7.binds (ps := ["letters"]) fun _ _ _ _ _ _ us hl => match us, hl with | [_], _ => rfl
  have F8 := fun_mk (st := s_word_key) l8 c_8 k8
  have b8 := F8.binds (ps := ["word"]) fun _ _ _ _ _ _ us hl => match us, hl with | [_], _ => rfl
  have F9 := fun_mk (st := s_is_pair) l9 c_9 k9
  have b9 := F9.binds (ps := ["value", "write", "size"]) fun _ _ _ _ _ _ us hl => match us, hl with | [_, _, _], _ => rfl
  have F10 := fun_mk (st := s_is_arc) l10 c_10 k10
  have b10 := F10.binds (ps := ["value", "read", "write", "size"]) fun _ _ _ _ _ _ us hl => match us, hl with | [_, _, _, _], _ => rfl
  have F11 := fun_mk (st := s_pair_key) l11 c_11 k11
  have b11 := F11.binds (ps := ["pair"]) fun _ _ _ _ _ _ us hl => match us, hl with | [_], _ => rfl
  have F12 := fun_mk (st := s_arc_key) l12 c_12 k12
  have b12 := F12.binds (ps := ["arc"]) fun _ _ _ _ _ _ us hl => match us, hl with | [_], _ => rfl
  have F13 := fun_mk (st := s_check_many) l13 c_13 k13
  have b13 := F13.binds (ps := ["place", "entries"]) fun _ _ _ _ _ _ us hl => match us, hl with | [_, _], _ => rfl
  have F14 := fun_mk (st := s_checked_pairs) l14 c_14 k14
  have b14 := F14.binds (ps := ["place", "entries", "write", "size"]) fun _ _ _ _ _ _ us hl => match us, hl with | [_, _, _, _], _ => rfl
  have F15 := fun_mk (st := s_checked_arcs) l15 c_15 k15
  have b15 := F15.binds (ps := ["entries", "read", "write", "size"]) fun _ _ _ _ _ _ us hl => match us, hl with | [_, _, _, _], _ => rfl
  have F16 := fun_mk (st := s_mix) l16 c_16 k16
  have b16 := F16.binds (ps := ["number", "tick"]) fun _ _ _ _ _ _ us hl => match us, hl with | [_, _], _ => rfl
  have F17 := fun_mk (st := s_store) l17 c_17 k17
  have b17 := F17.binds (ps := ["script"]) fun _ _ _ _ _ _ us hl => match us, hl with | [_], _ => rfl
  have F18 := fun_mk (st := s_take) l18 c_18 k18
  have b18 := F18.binds (ps := ["store", "many"]) fun _ _ _ _ _ _ us hl => match us, hl with | [_, _], _ => rfl
  have F19 := fun_mk (st := s_pick) l19 c_19 k19
  have b19 := F19.binds (ps := ["store", "row"]) fun _ _ _ _ _ _ us hl => match us, hl with | [_, _], _ => rfl
  have F20 := fun_mk (st := s_between) l20 c_20 k20
  have b20 := F20.binds (ps := ["store", "low", "high"]) fun _ _ _ _ _ _ us hl => match us, hl with | [_, _, _], _ => rfl
  have F21 := fun_mk (st := s_worn) l21 c_21 k21
  have b21 := F21.binds (ps := ["store", "row"]) fun _ _ _ _ _ _ us hl => match us, hl with | [_, _], _ => rfl
  have F22 := fun_mk (st := s_letters) l22 c_22 k22
  have b22 := F22.binds (ps := ["store", "limit"]) fun _ _ _ _ _ _ us hl => match us, hl with | [_, _], _ => rfl
  have F23 := fun_mk (st := s_stranger) l23 c_23 k23
  have b23 := F23.binds (ps := ["store", "letters"]) fun _ _ _ _ _ _ us hl => match us, hl with | [_, _], _ => rfl
  have F24 := fun_mk (st := s_word) l24 c_24 k24
  have b24 := F24.binds (ps := ["store", "letters", "limit"]) fun _ _ _ _ _ _ us hl => match us, hl with | [_, _, _], _ => rfl
  have F25 := fun_mk (st := s_long_word) l25 c_25 k25
  have b25 := F25.binds (ps := ["store", "letters", "size"]) fun _ _ _ _ _ _ us hl => match us, hl with | [_, _, _], _ => rfl
  have F26 := fun_mk (st := s_arc) l26 c_26 k26
  have b26 := F26.binds (ps := ["store", "read", "write", "size", "longest"]) fun _ _ _ _ _ _ us hl => match us, hl with | [_, _, _, _, _], _ => rfl
  have F27 := fun_mk (st := s_same) l27 c_27 k27
  have b27 := F27.binds (ps := ["actual", "expected"]) fun _ _ _ _ _ _ us hl => match us, hl with | [_, _], _ => rfl
  have F28 := fun_mk (st := s_copy) l28 c_28 k28
  have b28 := F28.binds (ps := ["value"]) fun _ _ _ _ _ _ us hl => match us, hl with | [_], _ => rfl
  have F29 := fun_mk (st := s_refusal) l29 c_29 k29
  have b29 := F29.binds (ps := ["action"]) fun _ _ _ _ _ _ us hl => match us, hl with | [_], _ => rfl
  have F30 := fun_mk (st := s_good_parts) l30 c_30 k30
  have b30 := F30.binds (ps := ["store"]) fun _ _ _ _ _ _ us hl => match us, hl with | [_], _ => rfl
  have F31 := fun_mk (st := s_good_entry) l31 c_31 k31
  have b31 := F31.binds (ps := ["store", "parts", "at"]) fun _ _ _ _ _ _ us hl => match us, hl with | [_, _, _], _ => rfl
  have F32 := fun_mk (st := s_wrong_number) l32 c_32 k32
  have b32 := F32.binds (ps := ["store", "high"]) fun _ _ _ _ _ _ us hl => match us, hl with | [_, _], _ => rfl
  have F33 := fun_mk (st := s_wrong_letters) l33 c_33 k33
  have b33 := F33.binds (ps := ["store", "letters"]) fun _ _ _ _ _ _ us hl => match us, hl with | [_, _], _ => rfl
  have F34 := fun_mk (st := s_wrong_word) l34 c_34 k34
  have b34 := F34.binds (ps := ["store", "letters"]) fun _ _ _ _ _ _ us hl => match us, hl with | [_, _], _ => rfl
  have F35 := fun_mk (st := s_wrong_letter) l35 c_35 k35
  have b35 := F35.binds (ps := ["store", "letters"]) fun _ _ _ _ _ _ us hl => match us, hl with | [_, _], _ => rfl
  have F36 := fun_mk (st := s_wrong_entry) l36 c_36 k36
  have b36 := F36.binds (ps := ["store", "parts", "at"]) fun _ _ _ _ _ _ us hl => match us, hl with | [_, _, _], _ => rfl
  have F37 := fun_mk (st := s_spoilt) l37 c_37 k37
  have b37 := F37.binds (ps := ["store", "parts"]) fun _ _ _ _ _ _ us hl => match us, hl with | [_, _], _ => rfl
  have F38 := fun_mk (st := s_made) l38 c_38 k38
  have b38 := F38.binds (ps := ["parts"]) fun _ _ _ _ _ _ us hl => match us, hl with | [_], _ => rfl
  have F39 := fun_mk (st := s_order_key) l39 c_39 k39
  have b39 := F39.binds (ps := ["entry"]) fun _ _ _ _ _ _ us hl => match us, hl with | [_], _ => rfl
  have F40 := fun_mk (st := s_told_right) l40 c_40 k40
  have b40 := F40.binds (ps := ["machine", "parts"]) fun _ _ _ _ _ _ us hl => match us, hl with | [_, _], _ => rfl
  have F41 := fun_mk (st := s_refused_right) l41 c_41 k41
  have b41 := F41.binds (ps := ["spoilt", "due"]) fun _ _ _ _ _ _ us hl => match us, hl with | [_, _], _ => rfl
  have F42 := fun_mk (st := s_mended_right) l42 c_42 k42
  have b42 := F42.binds (ps := ["store", "parts"]) fun _ _ _ _ _ _ us hl => match us, hl with | [_, _], _ => rfl
  have F43 := fun_mk (st := s_law) l43 c_43 k43
  have b43 := F43.binds (ps := ["script"]) fun _ _ _ _ _ _ us hl => match us, hl with | [_], _ => rfl
  have FI1 := fun_mk (st := si_BadLetters) lI1 cI1 kI1
  have bI1 := FI1.binds (ps := ["self", "value"]) fun _ _ _ _ _ _ us hl => match us, hl with | [_, _], _ => rfl
  have FI2 := fun_mk (st := si_BadWord) lI2 cI2 kI2
  have bI2 := FI2.binds (ps := ["self", "value"]) fun _ _ _ _ _ _ us hl => match us, hl with | [_, _], _ => rfl
  have FI3 := fun_mk (st := si_BadNumber) lI3 cI3 kI3
  have bI3 := FI3.binds (ps := ["self", "value"]) fun _ _ _ _ _ _ us hl => match us, hl with | [_, _], _ => rfl
  have FI4 := fun_mk (st := si_BadName) lI4 cI4 kI4
  have bI4 := FI4.binds (ps := ["self", "value"]) fun _ _ _ _ _ _ us hl => match us, hl with | [_, _], _ => rfl
  have FI5 := fun_mk (st := si_BadEntry) lI5 cI5 kI5
  have bI5 := FI5.binds (ps := ["self", "place", "index"]) fun _ _ _ _ _ _ us hl => match us, hl with | [_, _, _], _ => rfl
  have FI6 := fun_mk (st := si_BadLine) lI6 cI6 kI6
  have bI6 := FI6.binds (ps := ["self", "line", "place"]) fun _ _ _ _ _ _ us hl => match us, hl with | [_, _, _], _ => rfl
  have FI8 := fun_mk (st := si_TooLarge) lI8 cI8 kI8
  have bI8 := FI8.binds (ps := ["self", "what", "limit"]) fun _ _ _ _ _ _ us hl => match us, hl with | [_, _, _], _ => rfl
  have MF0 := fun_mk (st := s_Machine___init__) ml0 mc0 mk0
  have FD0 : FunD K "__init__" "Machine.__init__" (defArgs s_Machine___init__) (defBody s_Machine___init__) (defScope s_Machine___init__) [] ([("begins", V.ref mt0_begins), ("arcs", V.ref mt0_arcs), ("ends", V.ref mt0_ends)] : List (Str × V)) mf0 (PySem.W.fnOf "__init__" "Machine.__init__" (defArgs s_Machine___init__) (defBody s_Machine___init__) (defScope s_Machine___init__) .none (.ref mD0) mdc0 mpm0 man0 mcd0 mct0) := ⟨⟨_, _, .none, .ref mD0, _, _, _, _, _, _, rfl, ml0, mc0, .inl ⟨rfl, rfl⟩, .inr ⟨mD0, rfl, List.forall_mem_cons.mpr ⟨⟨_, mq0_begins, rfl⟩, List.forall_mem_cons.mpr ⟨⟨_, mq0_arcs, rfl⟩, List.forall_mem_cons.mpr ⟨⟨_, mq0_ends, rfl⟩, (fun _ h => nomatch h)⟩⟩⟩⟩⟩, mk0⟩
  obtain ⟨mv0_0, mb0_0⟩ := FD0.kbinds0 (ps := ["self", "read", "write", "size", "begins", "arcs", "ends"]) 4 ["begins", "arcs", "ends"] ([] : List (Str × V)) (fun us mv ws => us ++ (((ws.drop 0).take 1) ++ (((ws.drop 1).take 1) ++ (((ws.drop 2).take 1))))) (by simp) (by simp) (fun r1 r2 r3 => r1.append ((vals_take1 (r3.drop 0)).append ((vals_take1 (r3.drop 1)).append ((vals_take1 (r3.drop 2)))))) fun D _ _ _ _ _ us mv ws h1 h2 h3 => match us, mv, ws, h1, h2, h3 with | [_, _, _, _], [], [_, _, _], _, _, _ => rfl
  obtain ⟨mv0_1, mb0_1⟩ := FD0.kbinds0 (ps := ["self", "read", "write", "size", "begins", "arcs", "ends"]) 4 ["ends"] ([("begins", V.ref mt0_begins), ("arcs", V.ref mt0_arcs)] : List (Str × V)) (fun us mv ws => us ++ (((mv.drop 0).take 1) ++ (((mv.drop 1).take 1) ++ (((ws.drop 0).take 1))))) (by simp) (by simp) (fun r1 r2 r3 => r1.append ((vals_take1 (r2.drop 0)).append ((vals_take1 (r2.drop 1)).append ((vals_take1 (r3.drop 0)))))) fun D _ _ _ _ _ us mv ws h1 h2 h3 => match us, mv, ws, h1, h2, h3 with | [_, _, _, _], [_, _], [_], _, _, _ => ⟨_, _, _, _, _, _, rfl, rfl, _, _, _, _, _, _, rfl, rfl, rfl⟩
  have MF1 := fun_mk (st := s_Machine_read) ml1 mc1 mk1
  have mb1 := MF1.binds (ps := ["self"]) fun _ _ _ _ _ _ us hl => match us, hl with | [_], _ => rfl
  have MF2 := fun_mk (st := s_Machine_write) ml2 mc2 mk2
  have mb2 := MF2.binds (ps := ["self"]) fun _ _ _ _ _ _ us hl => match us, hl with | [_], _ => rfl
  have MF3 := fun_mk (st := s_Machine_size) ml3 mc3 mk3
  have mb3 := MF3.binds (ps := ["self"]) fun _ _ _ _ _ _ us hl => match us, hl with | [_], _ => rfl
  have MF4 := fun_mk (st := s_Machine_begins) ml4 mc4 mk4
  have mb4 := MF4.binds (ps := ["self"]) fun _ _ _ _ _ _ us hl => match us, hl with | [_], _ => rfl
  have MF5 := fun_mk (st := s_Machine_arcs) ml5 mc5 mk5
  have mb5 := MF5.binds (ps := ["self"]) fun _ _ _ _ _ _ us hl => match us, hl with | [_], _ => rfl
  have MF6 := fun_mk (st := s_Machine_ends) ml6 mc6 mk6
  have mb6 := MF6.binds (ps := ["self"]) fun _ _ _ _ _ _ us hl => match us, hl with | [_], _ => rfl
  have MF7 := fun_mk (st := s_Machine___len__) ml7 mc7 mk7
  have mb7 := MF7.binds (ps := ["self"]) fun _ _ _ _ _ _ us hl => match us, hl with | [_], _ => rfl
  have MF8 := fun_mk (st := s_Machine___iter__) ml8 mc8 mk8
  have mb8 := MF8.binds (ps := ["self"]) fun _ _ _ _ _ _ us hl => match us, hl with | [_], _ => rfl
  letI : Tabl := ⟨([(P3, (Str.ofString "is_letters" ++ ".<locals>.") ++ "<genexpr>"), (P5, (Str.ofString "is_word" ++ ".<locals>.") ++ "<genexpr>"), (P41, (Str.ofString "_law_refused_right" ++ ".<locals>.") ++ "<lambda>"), (P43, (Str.ofString "law" ++ ".<locals>.") ++ "<lambda>")] : List (Addr × Str)), one⟩
  refine ⟨_, [(c3, P3), (c5, P5), (c41, P41), (c43, P43)], sp_law K, List.forall_mem_cons.mpr ⟨E _ _ _ _ _ _ _ _ _ _ y3 (PySem.W.mg_of X G a3) l3 rfl rfl r3 p3, List.forall_mem_cons.mpr ⟨E _ _ _ _ _ _ _ _ _ _ y5 (PySem.W.mg_of X G a5) l5 rfl rfl r5 p5, List.forall_mem_cons.mpr ⟨E _ _ _ _ _ _ _ _ _ _ y41 (PySem.W.mg_of X G a41) l41 rfl rfl r41 p41, List.forall_mem_cons.mpr ⟨E _ _ _ _ _ _ _ _ _ _ y43 (PySem.W.mg_of X G a43) l43 rfl rfl r43 p43, (fun _ h => nomatch h)⟩⟩⟩⟩, List.forall_mem_cons.mpr ⟨n3, List.forall_mem_cons.mpr ⟨n5, List.forall_mem_cons.mpr ⟨n41, List.forall_mem_cons.mpr ⟨n43, (fun _ h => nomatch h)⟩⟩⟩⟩, List.forall_mem_cons.mpr ⟨PySem.W.codeHd_of_K X h3, List.forall_mem_cons.mpr ⟨PySem.W.codeHd_of_K X h5, List.forall_mem_cons.mpr ⟨PySem.W.codeHd_of_K X h41, List.forall_mem_cons.mpr ⟨PySem.W.codeHd_of_K X h43, (fun _ h => nomatch h)⟩⟩⟩⟩, fun s v => .of_eq rfl, fun H a ns hl _ hT hS => ⟨a, ns, rfl, hS, hl, List.forall_mem_cons.mpr ⟨LamX.TabS.nil (hT (c3, P3) (List.Mem.head _)), List.forall_mem_cons.mpr ⟨LamX.TabS.nil (hT (c5, P5) (List.Mem.tail _ (List.Mem.head _))), List.forall_mem_cons.mpr ⟨LamX.TabS.nil (hT (c41, P41) (List.Mem.tail _ (List.Mem.tail _ (List.Mem.head _)))), List.forall_mem_cons.mpr ⟨LamX.TabS.nil (hT (c43, P43) (List.Mem.tail _ (List.Mem.tail _ (List.Mem.tail _ (List.Mem.head _))))), (fun _ h => nomatch h)⟩⟩⟩⟩, fun _ => rfl⟩, fun base _ _ tb => ok_law (K := K) (mg := mg) { f_is_whole := _, fd_is_whole := _, F_is_whole := F0, b_is_whole := b0, g_is_whole := PySem.W.mg_of X G a0, f_in_range := _, fd_in_range := _, F_in_range := F1, b_in_range := b1, g_in_range := PySem.W.mg_of X G a1, f_check_number := _, fd_check_number := _, F_check_number := F2, b_check_number := b2, g_check_number := PySem.W.mg_of X G a2, f_is_letters := _, fd_is_letters := _, C_is_letters := c3, P_is_letters := P3, F_is_letters := ⟨F3, rfl⟩, B_is_letters := tb (c3, P3) (List.Mem.head _), m_is_letters := (List.Mem.head _), b_is_letters := b3, g_is_letters := PySem.W.mg_of X G a3, f_is_letter := _, fd_is_letter := _, F_is_letter := F4, b_is_letter := b4, g_is_letter := PySem.W.mg_of X G a4, f_is_word := _, fd_is_word := _, C_is_word := c5, P_is_word := P5, F_is_word := ⟨F5, rfl⟩, B_is_word := tb (c5, P5) (List.Mem.tail _ (List.Mem.head _)), m_is_word := (List.Mem.tail _ (List.Mem.head _)), b_is_word := b5, g_is_word := PySem.W.mg_of X G a5, f_is_word_up_to := _, fd_is_word_up_to := _, F_is_word_up_to := F6, b_is_word_up_to := b6, g_is_word_up_to := PySem.W.mg_of X G a6, f_check_letters := _, fd_check_letters := _, F_check_letters := F7, b_check_letters := b7, g_check_letters := PySem.W.mg_of X G a7, f_word_key := _, fd_word_key := _, F_word_key := F8, b_word_key := b8, g_word_key := PySem.W.mg_of X G a8, f_is_pair := _, fd_is_pair := _, F_is_pair := F9, b_is_pair := b9, g_is_pair := PySem.W.mg_of X G a9, f_is_arc := _, fd_is_arc := _, F_is_arc := F10, b_is_arc := b10, g_is_arc := PySem.W.mg_of X G a10, f_pair_key := _, fd_pair_key := _, F_pair_key := F11, b_pair_key := b11, g_pair_key := PySem.W.mg_of X G a11, f_arc_key := _, fd_arc_key := _, F_arc_key := F12, b_arc_key := b12, g_arc_key := PySem.W.mg_of X G a12, f_check_many := _, fd_check_many := _, F_check_many := F13, b_check_many := b13, g_check_many := PySem.W.mg_of X G a13, f_checked_pairs := _, fd_checked_pairs := _, F_checked_pairs := F14, b_checked_pairs := b14, g_checked_pairs := PySem.W.mg_of X G a14, f_checked_arcs := _, fd_checked_arcs := _, F_checked_arcs := F15, b_checked_arcs := b15, g_checked_arcs := PySem.W.mg_of X G a15, f_mix := _, fd_mix := _, F_mix := F16, b_mix := b16, g_mix := PySem.W.mg_of X G a16, f_store := _, fd_store := _, F_store := F17, b_store := b17, g_store := PySem.W.mg_of X G a17, f_take := _, fd_take := _, F_take := F18, b_take := b18, g_take := PySem.W.mg_of X G a18, f_pick := _, fd_pick := _, F_pick := F19, b_pick := b19, g_pick := PySem.W.mg_of X G a19, f_between := _, fd_between := _, F_between := F20, b_between := b20, g_between := PySem.W.mg_of X G a20, f_worn := _, fd_worn := _, F_worn := F21, b_worn := b21, g_worn := PySem.W.mg_of X G a21, f_letters := _, fd_letters := _, F_letters := F22, b_letters := b22, g_letters := PySem.W.mg_of X G a22, f_stranger := _, fd_stranger := _, F_stranger := F23, b_stranger := b23, g_stranger := PySem.W.mg_of X G a23, f_word := _, fd_word := _, F_word := F24, b_word := b24, g_word := PySem.W.mg_of X G a24, f_long_word := _, fd_long_word := _, F_long_word := F25, b_long_word := b25, g_long_word := PySem.W.mg_of X G a25, f_arc := _, fd_arc := _, F_arc := F26, b_arc := b26, g_arc := PySem.W.mg_of X G a26, f_same := _, fd_same := _, F_same := F27, b_same := b27, g_same := PySem.W.mg_of X G a27, f_copy := _, fd_copy := _, F_copy := F28, b_copy := b28, g_copy := PySem.W.mg_of X G a28, f_refusal := _, fd_refusal := _, F_refusal := F29, b_refusal := b29, g_refusal := PySem.W.mg_of X G a29, f_good_parts := _, fd_good_parts := _, F_good_parts := F30, b_good_parts := b30, g_good_parts := PySem.W.mg_of X G a30, f_good_entry := _, fd_good_entry := _, F_good_entry := F31, b_good_entry := b31, g_good_entry := PySem.W.mg_of X G a31, f_wrong_number := _, fd_wrong_number := _, F_wrong_number := F32, b_wrong_number := b32, g_wrong_number := PySem.W.mg_of X G a32, f_wrong_letters := _, fd_wrong_letters := _, F_wrong_letters := F33, b_wrong_letters := b33, g_wrong_letters := PySem.W.mg_of X G a33, f_wrong_word := _, fd_wrong_word := _, F_wrong_word := F34, b_wrong_word := b34, g_wrong_word := PySem.W.mg_of X G a34, f_wrong_letter := _, fd_wrong_letter := _, F_wrong_letter := F35, b_wrong_letter := b35, g_wrong_letter := PySem.W.mg_of X G a35, f_wrong_entry := _, fd_wrong_entry := _, F_wrong_entry := F36, b_wrong_entry := b36, g_wrong_entry := PySem.W.mg_of X G a36, f_spoilt := _, fd_spoilt := _, F_spoilt := F37, b_spoilt := b37, g_spoilt := PySem.W.mg_of X G a37, f_made := _, fd_made := _, F_made := F38, b_made := b38, g_made := PySem.W.mg_of X G a38, f_order_key := _, fd_order_key := _, F_order_key := F39, b_order_key := b39, g_order_key := PySem.W.mg_of X G a39, f_told_right := _, fd_told_right := _, F_told_right := F40, b_told_right := b40, g_told_right := PySem.W.mg_of X G a40, f_refused_right := _, fd_refused_right := _, C_refused_right := c41, P_refused_right := P41, F_refused_right := ⟨F41, rfl⟩, B_refused_right := tb (c41, P41) (List.Mem.tail _ (List.Mem.tail _ (List.Mem.head _))), m_refused_right := (List.Mem.tail _ (List.Mem.tail _ (List.Mem.head _))), b_refused_right := b41, g_refused_right := PySem.W.mg_of X G a41, f_mended_right := _, fd_mended_right := _, F_mended_right := F42, b_mended_right := b42, g_mended_right := PySem.W.mg_of X G a42, f_law := _, fd_law := _, C_law := c43, P_law := P43, F_law := ⟨F43, rfl⟩, B_law := tb (c43, P43) (List.Mem.tail _ (List.Mem.tail _ (List.Mem.tail _ (List.Mem.head _)))), m_law := (List.Mem.tail _ (List.Mem.tail _ (List.Mem.tail _ (List.Mem.head _)))), b_law := b43, g_law := PySem.W.mg_of X G a43, C_LagError := eC0, E_LagError := ⟨PySem.W.mg_of X G ea0, ⟨⟨_, _, _, _, _, _, _, _, _, _, _, _, _, _, _, el0, er0⟩, esa0, eex0, ety0, ekp0⟩, ⟨ega0, egg0, eex0, ehd0⟩, ⟨ega0, egg0, eex0, ehd0, eca0, sp1, sp2, emr0⟩⟩, C_BadLetters := eC1, E_BadLetters := ⟨PySem.W.mg_of X G ea1, ⟨⟨_, _, _, _, _, _, _, _, _, _, _, _, _, _, _, el1, er1⟩, esa1, eex1, ety1, ekp1⟩, ⟨ega1, egg1, eex1, ehd1⟩, ⟨ega1, egg1, eex1, ehd1, eca1, sp1, sp2, emr1⟩⟩, I_BadLetters := eI1, fdI_BadLetters := _, FI_BadLetters := FI1, bI_BadLetters := bI1, iI_BadLetters := iI1, tI_BadLetters := tI1, no_BadLetters_value := eno1_value, C_BadWord := eC2, E_BadWord := ⟨PySem.W.mg_of X G ea2, ⟨⟨_, _, _, _, _, _, _, _, _, _, _, _, _, _, _, el2, er2⟩, esa2, eex2, ety2, ekp2⟩, ⟨ega2, egg2, eex2, ehd2⟩, ⟨ega2, egg2, eex2, ehd2, eca2, sp1, sp2, emr2⟩⟩, I_BadWord := eI2, fdI_BadWord := _, FI_BadWord := FI2, bI_BadWord := bI2, iI_BadWord := iI2, tI_BadWord := tI2, no_BadWord_value := eno2_value, C_BadNumber := eC3, E_BadNumber := ⟨PySem.W.mg_of X G ea3, ⟨⟨_, _, _, _, _, _, _, _, _, _, _, _, _, _, _, el3, er3⟩, esa3, eex3, ety3, ekp3⟩, ⟨ega3, egg3, eex3, ehd3⟩, ⟨ega3, egg3, eex3, ehd3, eca3, sp1, sp2, emr3⟩⟩, I_BadNumber := eI3, fdI_BadNumber := _, FI_BadNumber := FI3, bI_BadNumber := bI3, iI_BadNumber := iI3, tI_BadNumber := tI3, no_BadNumber_value := eno3_value, C_BadName := eC4, E_BadName := ⟨PySem.W.mg_of X G ea4, ⟨⟨_, _, _, _, _, _, _, _, _, _, _, _, _, _, _, el4, er4⟩, esa4, eex4, ety4, ekp4⟩, ⟨ega4, egg4, eex4, ehd4⟩, ⟨ega4, egg4, eex4, ehd4, eca4, sp1, sp2, emr4⟩⟩, I_BadName := eI4, fdI_BadName := _, FI_BadName := FI4, bI_BadName := bI4, iI_BadName := iI4, tI_BadName := tI4, no_BadName_value := eno4_value, C_BadEntry := eC5, E_BadEntry := ⟨PySem.W.mg_of X G ea5, ⟨⟨_, _, _, _, _, _, _, _, _, _, _, _, _, _, _, el5, er5⟩, esa5, eex5, ety5, ekp5⟩, ⟨ega5, egg5, eex5, ehd5⟩, ⟨ega5, egg5, eex5, ehd5, eca5, sp1, sp2, emr5⟩⟩, I_BadEntry := eI5, fdI_BadEntry := _, FI_BadEntry := FI5, bI_BadEntry := bI5, iI_BadEntry := iI5, tI_BadEntry := tI5, no_BadEntry_place := eno5_place, no_BadEntry_index := eno5_index, C_BadLine := eC6, E_BadLine := ⟨PySem.W.mg_of X G ea6, ⟨⟨_, _, _, _, _, _, _, _, _, _, _, _, _, _, _, el6, er6⟩, esa6, eex6, ety6, ekp6⟩, ⟨ega6, egg6, eex6, ehd6⟩, ⟨ega6, egg6, eex6, ehd6, eca6, sp1, sp2, emr6⟩⟩, I_BadLine := eI6, fdI_BadLine := _, FI_BadLine := FI6, bI_BadLine := bI6, iI_BadLine := iI6, tI_BadLine := tI6, no_BadLine_line := eno6_line, no_BadLine_place := eno6_place, C_Mismatch := eC7, E_Mismatch := ⟨PySem.W.mg_of X G ea7, ⟨⟨_, _, _, _, _, _, _, _, _, _, _, _, _, _, _, el7, er7⟩, esa7, eex7, ety7, ekp7⟩, ⟨ega7, egg7, eex7, ehd7⟩, ⟨ega7, egg7, eex7, ehd7, eca7, sp1, sp2, emr7⟩⟩, C_TooLarge := eC8, E_TooLarge := ⟨PySem.W.mg_of X G ea8, ⟨⟨_, _, _, _, _, _, _, _, _, _, _, _, _, _, _, el8, er8⟩, esa8, eex8, ety8, ekp8⟩, ⟨ega8, egg8, eex8, ehd8⟩, ⟨ega8, egg8, eex8, ehd8, eca8, sp1, sp2, emr8⟩⟩, I_TooLarge := eI8, fdI_TooLarge := _, FI_TooLarge := FI8, bI_TooLarge := bI8, iI_TooLarge := iI8, tI_TooLarge := tI8, no_TooLarge_what := eno8_what, no_TooLarge_limit := eno8_limit, C_Machine := oC0, cl_Machine := ⟨opg0, ohd0, opo0, osa0⟩, mg_Machine := PySem.W.mg_of X G oa0, no_Machine__read := on0__read, no_Machine__write := on0__write, no_Machine__size := on0__size, no_Machine__begins := on0__begins, no_Machine__arcs := on0__arcs, no_Machine__ends := on0__ends, f_Machine___init__ := mf0, fd_Machine___init__ := _, F_Machine___init__ := MF0, M_Machine := ⟨omk0, ma0, mi0, okc0⟩, kt_Machine_begins := mt0_begins, ke_Machine_begins := ⟨_, _, mz0_begins, rfl, rfl⟩, kt_Machine_arcs := mt0_arcs, ke_Machine_arcs := ⟨_, _, mz0_arcs, rfl, rfl⟩, kt_Machine_ends := mt0_ends, ke_Machine_ends := ⟨_, _, mz0_ends, rfl, rfl⟩, ka_Machine_0 := mv0_0, kb_Machine_0 := mb0_0, ka_Machine_1 := mv0_1, kb_Machine_1 := mb0_1, f_Machine_read := mf1, fd_Machine_read := _, F_Machine_read := MF1, b_Machine_read := mb1, pa_Machine_read := mp1, p_Machine_read := ⟨ma1, mgt1, mtk1, ⟨_, mrc1⟩⟩, f_Machine_write := mf2, fd_Machine_write := _, F_Machine_write := MF2, b_Machine_write := mb2, pa_Machine_write := mp2, p_Machine_write := ⟨ma2, mgt2, mtk2, ⟨_, mrc2⟩⟩, f_Machine_size := mf3, fd_Machine_size := _, F_Machine_size := MF3, b_Machine_size := mb3, pa_Machine_size := mp3, p_Machine_size := ⟨ma3, mgt3, mtk3, ⟨_, mrc3⟩⟩, f_Machine_begins := mf4, fd_Machine_begins := _, F_Machine_begins := MF4, b_Machine_begins := mb4, pa_Machine_begins := mp4, p_Machine_begins := ⟨ma4, mgt4, mtk4, ⟨_, mrc4⟩⟩, f_Machine_arcs := mf5, fd_Machine_arcs := _, F_Machine_arcs := MF5, b_Machine_arcs := mb5, pa_Machine_arcs := mp5, p_Machine_arcs := ⟨ma5, mgt5, mtk5, ⟨_, mrc5⟩⟩, f_Machine_ends := mf6, fd_Machine_ends := _, F_Machine_ends := MF6, b_Machine_ends := mb6, pa_Machine_ends := mp6, p_Machine_ends := ⟨ma6, mgt6, mtk6, ⟨_, mrc6⟩⟩, f_Machine___len__ := mf7, fd_Machine___len__ := _, F_Machine___len__ := MF7, b_Machine___len__ := mb7, h_Machine___len__ := ma7, i_Machine___len__ := mi7, f_Machine___iter__ := mf8, fd_Machine___iter__ := _, F_Machine___iter__ := MF8, b_Machine___iter__ := mb8, h_Machine___iter__ := ma8, i_Machine___iter__ := mi8, k_BadNumber_BadLetters := kitN cl_BadLetters ety1 s_BadNumber_BadLetters ss_BadLetters, k_BadNumber_BadNumber := kitY cl_BadNumber ety3 ss_BadNumber, k_BadNumber_BadEntry := kitN cl_BadEntry ety5 s_BadNumber_BadEntry ss_BadEntry, k_BadNumber_TooLarge := kitN cl_TooLarge ety8 s_BadNumber_TooLarge ss_TooLarge, k_BadNumber_BadWord := kitN cl_BadWord ety2 s_BadNumber_BadWord ss_BadWord, k_BadNumber_BadName := kitN cl_BadName ety4 s_BadNumber_BadName ss_BadName, k_BadNumber_BadLine := kitN cl_BadLine ety6 s_BadNumber_BadLine ss_BadLine, k_BadNumber_Mismatch := kitN cl_Mismatch ety7 s_BadNumber_Mismatch ss_Mismatch, k_BadNumber_ValueError := kitB (by decide +kernel) s_BadNumber_ValueError, x_BadNumber_LagError := exmR eex0 cl_LagError ety0 s_BadNumber_LagError, k_BadLetters_BadLetters := kitY cl_BadLetters ety1 ss_BadLetters, k_BadLetters_BadNumber := kitN cl_BadNumber ety3 s_BadLetters_BadNumber ss_BadNumber, k_BadLetters_BadEntry := kitN cl_BadEntry ety5 s_BadLetters_BadEntry ss_BadEntry, k_BadLetters_TooLarge := kitN cl_TooLarge ety8 s_BadLetters_TooLarge ss_TooLarge, k_BadLetters_BadWord := kitN cl_BadWord ety2 s_BadLetters_BadWord ss_BadWord, k_BadLetters_BadName := kitN cl_BadName ety4 s_BadLetters_BadName ss_BadName, k_BadLetters_BadLine := kitN cl_BadLine ety6 s_BadLetters_BadLine ss_BadLine, k_BadLetters_Mismatch := kitN cl_Mismatch ety7 s_BadLetters_Mismatch ss_Mismatch, k_BadLetters_ValueError := kitB (by decide +kernel) s_BadLetters_ValueError, x_BadLetters_LagError := exmR eex0 cl_LagError ety0 s_BadLetters_LagError, k_BadEntry_BadLetters := kitN cl_BadLetters ety1 s_BadEntry_BadLetters ss_BadLetters, k_BadEntry_BadNumber := kitN cl_BadNumber ety3 s_BadEntry_BadNumber ss_BadNumber, k_BadEntry_BadEntry := kitY cl_BadEntry ety5 ss_BadEntry, k_BadEntry_TooLarge := kitN cl_TooLarge ety8 s_BadEntry_TooLarge ss_TooLarge, k_BadEntry_BadWord := kitN cl_BadWord ety2 s_BadEntry_BadWord ss_BadWord, k_BadEntry_BadName := kitN cl_BadName ety4 s_BadEntry_BadName ss_BadName, k_BadEntry_BadLine := kitN cl_BadLine ety6 s_BadEntry_BadLine ss_BadLine, k_BadEntry_Mismatch := kitN cl_Mismatch ety7 s_BadEntry_Mismatch ss_Mismatch, k_BadEntry_ValueError := kitB (by decide +kernel) s_BadEntry_ValueError, x_BadEntry_LagError := exmR eex0 cl_LagError ety0 s_BadEntry_LagError, k_TooLarge_BadLetters := kitN cl_BadLetters ety1 s_TooLarge_BadLetters ss_BadLetters, k_TooLarge_BadNumber := kitN cl_BadNumber ety3 s_TooLarge_BadNumber ss_BadNumber, k_TooLarge_BadEntry := kitN cl_BadEntry ety5 s_TooLarge_BadEntry ss_BadEntry, k_TooLarge_TooLarge := kitY cl_TooLarge ety8 ss_TooLarge, k_TooLarge_BadWord := kitN cl_BadWord ety2 s_TooLarge_BadWord ss_BadWord, k_TooLarge_BadName := kitN cl_BadName ety4 s_TooLarge_BadName ss_BadName, k_TooLarge_BadLine := kitN cl_BadLine ety6 s_TooLarge_BadLine ss_BadLine, k_TooLarge_Mismatch := kitN cl_Mismatch ety7 s_TooLarge_Mismatch ss_Mismatch, k_TooLarge_ValueError := kitB (by decide +kernel) s_TooLarge_ValueError, x_TooLarge_LagError := exmR eex0 cl_LagError ety0 s_TooLarge_LagError, z_ValueError := PySem.W.mg_none_of X G z_ValueError, z_all := PySem.W.mg_none_of X G z_all, z_bool := PySem.W.mg_none_of X G z_bool, z_enumerate := PySem.W.mg_none_of X G z_enumerate, z_int := PySem.W.mg_none_of X G z_int, z_isinstance := PySem.W.mg_none_of X G z_isinstance, z_iter := PySem.W.mg_none_of X G z_iter, z_len := PySem.W.mg_none_of X G z_len, z_list := PySem.W.mg_none_of X G z_list, z_max := PySem.W.mg_none_of X G z_max, z_min := PySem.W.mg_none_of X G z_min, z_range := PySem.W.mg_none_of X G z_range, z_set := PySem.W.mg_none_of X G z_set, z_sorted := PySem.W.mg_none_of X G z_sorted, z_str := PySem.W.mg_none_of X G z_str, z_tuple := PySem.W.mg_none_of X G z_tuple, t_MAX_LETTERS := t_MAX_LETTERS, c_MAX_LETTERS := PySem.W.mg_of X G c_MAX_LETTERS, t_MAX_WRITTEN := t_MAX_WRITTEN, c_MAX_WRITTEN := PySem.W.mg_of X G c_MAX_WRITTEN, t_MAX_STATES := t_MAX_STATES, c_MAX_STATES := PySem.W.mg_of X G c_MAX_STATES, t_MAX_ENTRIES := t_MAX_ENTRIES, c_MAX_ENTRIES := PySem.W.mg_of X G c_MAX_ENTRIES, t_SMALL_LETTERS := t_SMALL_LETTERS, c_SMALL_LETTERS := PySem.W.mg_of X G c_SMALL_LETTERS }⟩
end Lb
open PySem PySem.W PyProof.Rows
set_option maxHeartbeats 0 in
theorem PySem.Challenge.cw_lagbound_k12_machine_arguments_holds : PySem.Challenge.rw_lagbound_k12_machine_arguments.Holds := by
  w_on; o_law; k_head; (case hw => w_witness2)
  k_fill
  refine Lb.walk_tabs (l := PySem.Challenge.rw_lagbound_k12_machine_arguments) (n := 63) (k := 22 + 1) (x := "script") (CX := fun _ => L2.CX0) rfl (by decide) rfl ⟨rfl, by decide, by decide⟩ (fun w h Y => by first | exact PySem.W.kIn_of Y | exact Y.1) ?F (fun _ _ _ _ _ h => h)
  case F =>
    intro w mg fa h KX G hmg E
    refine' Lb.all_mk KX G hmg E ?a0 ?l0 ?k0 ?c_0 ?a1 ?l1 ?k1 ?c_1 ?a2 ?l2 ?k2 ?c_2 ?a3 ?l3 ?k3 ?c_3 ?r3 ?p3 ?n3 ?h3 ?y3 ?a4 ?l4 ?k4 ?c_4 ?a5 ?l5 ?k5 ?c_5 ?r5 ?p5 ?n5 ?h5 ?y5 ?a6 ?l6 ?k6 ?c_6 ?a7 ?l7 ?k7 ?c_7 ?a8 ?l8 ?k8 ?c_8 ?a9 ?l9 ?k9 ?c_9 ?a10 ?l10 ?k10 ?c_10 ?a11 ?l11 ?k11 ?c_11 ?a12 ?l12 ?k12 ?c_12 ?a13 ?l13 ?k13 ?c_13 ?a14 ?l14 ?k14 ?c_14 ?a15 ?l15 ?k15 ?c_15 ?a16 ?l16 ?k16 ?c_16 ?a17 ?l17 ?k17 ?c_17 ?a18 ?l18 ?k18 ?c_18 ?a19 ?l19 ?k19 ?c_19 ?a20 ?l20 ?k20 ?c_20 ?a21 ?l21 ?k21 ?c_21 ?a22 ?l22 ?k22 ?c_22 ?a23 ?l23 ?k23 ?c_23 ?a24 ?l24 ?k24 ?c_24 ?a25 ?l25 ?k25 ?c_25 ?a26 ?l26 ?k26 ?c_26 ?a27 ?l27 ?k27 ?c_27 ?a28 ?l28 ?k28 ?c_28 ?a29 ?l29 ?k29 ?c_29 ?a30 ?l30 ?k30 ?c_30 ?a31 ?l31 ?k31 ?c_31 ?a32 ?l32 ?k32 ?c_32 ?a33 ?l33 ?k33 ?c_33 ?a34 ?l34 ?k34 ?c_34 ?a35 ?l35 ?k35 ?c_35 ?a36 ?l36 ?k36 ?c_36 ?a37 ?l37 ?k37 ?c_37 ?a38 ?l38 ?k38 ?c_38 ?a39 ?l39 ?k39 ?c_39 ?a40 ?l40 ?k40 ?c_40 ?a41 ?l41 ?k41 ?c_41 ?r41 ?p41 ?n41 ?h41 ?y41 ?a42 ?l42 ?k42 ?c_42 ?a43 ?l43 ?k43 ?c_43 ?r43 ?p43 ?n43 ?h43 ?y43 ?sp1 ?sp2 ?ea0 ?el0 ?er0 ?esa0 ?eex0 ?ety0 ?ekp0 ?ega0 ?egg0 ?ehd0 ?eca0 ?emr0 ?ea1 ?el1 ?er1 ?esa1 ?eex1 ?ety1 ?ekp1 ?ega1 ?egg1 ?ehd1 ?eca1 ?emr1 ?iI1 ?tI1 ?lI1 ?cI1 ?kI1 ?eno1_value ?ea2 ?el2 ?er2 ?esa2 ?eex2 ?ety2 ?ekp2 ?ega2 ?egg2 ?ehd2 ?eca2 ?emr2 ?iI2 ?tI2 ?lI2 ?cI2 ?kI2 ?eno2_value ?ea3 ?el3 ?er3 ?esa3 ?eex3 ?ety3 ?ekp3 ?ega3 ?egg3 ?ehd3 ?eca3 ?emr3 ?iI3 ?tI3 ?lI3 ?cI3 ?kI3 ?eno3_value ?ea4 ?el4 ?er4 ?esa4 ?eex4 ?ety4 ?ekp4 ?ega4 ?egg4 ?ehd4 ?eca4 ?emr4 ?iI4 ?tI4 ?lI4 ?cI4 ?kI4 ?eno4_value ?ea5 ?el5 ?er5 ?esa5 ?eex5 ?ety5 ?ekp5 ?ega5 ?egg5 ?ehd5 ?eca5 ?emr5 ?iI5 ?tI5 ?lI5 ?cI5 ?kI5 ?eno5_place ?eno5_index ?ea6 ?el6 ?er6 ?esa6 ?eex6 ?ety6 ?ekp6 ?ega6 ?egg6 ?ehd6 ?eca6 ?emr6 ?iI6 ?tI6 ?lI6 ?cI6 ?kI6 ?eno6_line ?eno6_place ?ea7 ?el7 ?er7 ?esa7 ?eex7 ?ety7 ?ekp7 ?ega7 ?egg7 ?ehd7 ?eca7 ?emr7 ?ea8 ?el8 ?er8 ?esa8 ?eex8 ?ety8 ?ekp8 ?ega8 ?egg8 ?ehd8 ?eca8 ?emr8 ?iI8 ?tI8 ?lI8 ?cI8 ?kI8 ?eno8_what ?eno8_limit ?cl_BadLetters ?ss_BadLetters ?cl_BadNumber ?ss_BadNumber ?cl_BadEntry ?ss_BadEntry ?cl_TooLarge ?ss_TooLarge ?cl_BadWord ?ss_BadWord ?cl_BadName ?ss_BadName ?cl_BadLine ?ss_BadLine ?cl_Mismatch ?ss_Mismatch ?cl_LagError ?ss_LagError ?s_BadNumber_BadLetters ?s_BadNumber_BadEntry ?s_BadNumber_TooLarge ?s_BadNumber_BadWord ?s_BadNumber_BadName ?s_BadNumber_BadLine ?s_BadNumber_Mismatch ?s_BadNumber_ValueError ?s_BadNumber_LagError ?s_BadLetters_BadNumber ?s_BadLetters_BadEntry ?s_BadLetters_TooLarge ?s_BadLetters_BadWord ?s_BadLetters_BadName ?s_BadLetters_BadLine ?s_BadLetters_Mismatch ?s_BadLetters_ValueError ?s_BadLetters_LagError ?s_BadEntry_BadLetters ?s_BadEntry_BadNumber ?s_BadEntry_TooLarge ?s_BadEntry_BadWord ?s_BadEntry_BadName ?s_BadEntry_BadLine ?s_BadEntry_Mismatch ?s_BadEntry_ValueError ?s_BadEntry_LagError ?s_TooLarge_BadLetters ?s_TooLarge_BadNumber ?s_TooLarge_BadEntry ?s_TooLarge_BadWord ?s_TooLarge_BadName ?s_TooLarge_BadLine ?s_TooLarge_Mismatch ?s_TooLarge_ValueError ?s_TooLarge_LagError ?oa0 ?opg0 ?ohd0 ?opo0 ?osa0 ?omk0 ?okc0 ?on0__read ?on0__write ?on0__size ?on0__begins ?on0__arcs ?on0__ends ?ma0 ?mi0 ?ml0 ?mc0 ?mk0 ?mq0_begins ?mz0_begins ?mq0_arcs ?mz0_arcs ?mq0_ends ?mz0_ends ?ma1 ?mgt1 ?mtk1 ?mrc1 ?ml1 ?mc1 ?mk1 ?ma2 ?mgt2 ?mtk2 ?mrc2 ?ml2 ?mc2 ?mk2 ?ma3 ?mgt3 ?mtk3 ?mrc3 ?ml3 ?mc3 ?mk3 ?ma4 ?mgt4 ?mtk4 ?mrc4 ?ml4 ?mc4 ?mk4 ?ma5 ?mgt5 ?mtk5 ?mrc5 ?ml5 ?mc5 ?mk5 ?ma6 ?mgt6 ?mtk6 ?mrc6 ?ml6 ?mc6 ?mk6 ?ma7 ?mi7 ?ml7 ?mc7 ?mk7 ?ma8 ?mi8 ?ml8 ?mc8 ?mk8 ?z_ValueError ?z_all ?z_bool ?z_enumerate ?z_int ?z_isinstance ?z_iter ?z_len ?z_list ?z_max ?z_min ?z_range ?z_set ?z_sorted ?z_str ?z_tuple ?c_MAX_LETTERS ?c_MAX_WRITTEN ?c_MAX_STATES ?c_MAX_ENTRIES ?c_SMALL_LETTERS ?one
    (case a0 => k_is)
    (case l0 => k_is)
    (case k0 => k_is)
    (case c_0 => k_is)
    (case a1 => k_is)
    (case l1 => k_is)
    (case k1 => k_is)
    (case c_1 => k_is)
    (case a2 => k_is)
    (case l2 => k_is)
    (case k2 => k_is)
    (case c_2 => k_is)
    (case a3 => k_is)
    (case l3 => k_is)
    (case k3 => k_is)
    (case c_3 => k_is)
    (case r3 => k_is)
    (case p3 => first | rfl | k_is)
    (case n3 => first | k_is | rfl | decide +kernel)
    (case h3 => kernel_rfl)
    (case y3 => decide +kernel)
    (case a4 => k_is)
    (case l4 => k_is)
    (case k4 => k_is)
    (case c_4 => k_is)
    (case a5 => k_is)
    (case l5 => k_is)
    (case k5 => k_is)
    (case c_5 => k_is)
    (case r5 => k_is)
    (case p5 => first | rfl | k_is)
    (case n5 => first | k_is | rfl | decide +kernel)
    (case h5 => kernel_rfl)
    (case y5 => decide +kernel)
    (case a6 => k_is)
    (case l6 => k_is)
    (case k6 => k_is)
    (case c_6 => k_is)
    (case a7 => k_is)
    (case l7 => k_is)
    (case k7 => k_is)
    (case c_7 => k_is)
    (case a8 => k_is)
    (case l8 => k_is)
    (case k8 => k_is)
    (case c_8 => k_is)
    (case a9 => k_is)
    (case l9 => k_is)
    (case k9 => k_is)
    (case c_9 => k_is)
    (case a10 => k_is)
    (case l10 => k_is)
    (case k10 => k_is)
    (case c_10 => k_is)
    (case a11 => k_is)
    (case l11 => k_is)
    (case k11 => k_is)
    (case c_11 => k_is)
    (case a12 => k_is)
    (case l12 => k_is)
    (case k12 => k_is)
    (case c_12 => k_is)
    (case a13 => k_is)
    (case l13 => k_is)
    (case k13 => k_is)
    (case c_13 => k_is)
    (case a14 => k_is)
    (case l14 => k_is)
    (case k14 => k_is)
    (case c_14 => k_is)
    (case a15 => k_is)
    (case l15 => k_is)
    (case k15 => k_is)
    (case c_15 => k_is)
    (case a16 => k_is)
    (case l16 => k_is)
    (case k16 => k_is)
    (case c_16 => k_is)
    (case a17 => k_is)
    (case l17 => k_is)
    (case k17 => k_is)
    (case c_17 => k_is)
    (case a18 => k_is)
    (case l18 => k_is)
    (case k18 => k_is)
    (case c_18 => k_is)
    (case a19 => k_is)
    (case l19 => k_is)
    (case k19 => k_is)
    (case c_19 => k_is)
    (case a20 => k_is)
    (case l20 => k_is)
    (case k20 => k_is)
    (case c_20 => k_is)
    (case a21 => k_is)
    (case l21 => k_is)
    (case k21 => k_is)
    (case c_21 => k_is)
    (case a22 => k_is)
    (case l22 => k_is)
    (case k22 => k_is)
    (case c_22 => k_is)
    (case a23 => k_is)
    (case l23 => k_is)
    (case k23 => k_is)
    (case c_23 => k_is)
    (case a24 => k_is)
    (case l24 => k_is)
    (case k24 => k_is)
    (case c_24 => k_is)
    (case a25 => k_is)
    (case l25 => k_is)
    (case k25 => k_is)
    (case c_25 => k_is)
    (case a26 => k_is)
    (case l26 => k_is)
    (case k26 => k_is)
    (case c_26 => k_is)
    (case a27 => k_is)
    (case l27 => k_is)
    (case k27 => k_is)
    (case c_27 => k_is)
    (case a28 => k_is)
    (case l28 => k_is)
    (case k28 => k_is)
    (case c_28 => k_is)
    (case a29 => k_is)
    (case l29 => k_is)
    (case k29 => k_is)
    (case c_29 => k_is)
    (case a30 => k_is)
    (case l30 => k_is)
    (case k30 => k_is)
    (case c_30 => k_is)
    (case a31 => k_is)
    (case l31 => k_is)
    (case k31 => k_is)
    (case c_31 => k_is)
    (case a32 => k_is)
    (case l32 => k_is)
    (case k32 => k_is)
    (case c_32 => k_is)
    (case a33 => k_is)
    (case l33 => k_is)
    (case k33 => k_is)
    (case c_33 => k_is)
    (case a34 => k_is)
    (case l34 => k_is)
    (case k34 => k_is)
    (case c_34 => k_is)
    (case a35 => k_is)
    (case l35 => k_is)
    (case k35 => k_is)
    (case c_35 => k_is)
    (case a36 => k_is)
    (case l36 => k_is)
    (case k36 => k_is)
    (case c_36 => k_is)
    (case a37 => k_is)
    (case l37 => k_is)
    (case k37 => k_is)
    (case c_37 => k_is)
    (case a38 => k_is)
    (case l38 => k_is)
    (case k38 => k_is)
    (case c_38 => k_is)
    (case a39 => k_is)
    (case l39 => k_is)
    (case k39 => k_is)
    (case c_39 => k_is)
    (case a40 => k_is)
    (case l40 => k_is)
    (case k40 => k_is)
    (case c_40 => k_is)
    (case a41 => k_is)
    (case l41 => k_is)
    (case k41 => k_is)
    (case c_41 => k_is)
    (case r41 => k_is)
    (case p41 => first | rfl | k_is)
    (case n41 => first | k_is | rfl | decide +kernel)
    (case h41 => kernel_rfl)
    (case y41 => decide +kernel)
    (case a42 => k_is)
    (case l42 => k_is)
    (case k42 => k_is)
    (case c_42 => k_is)
    (case a43 => k_is)
    (case l43 => k_is)
    (case k43 => k_is)
    (case c_43 => k_is)
    (case r43 => k_is)
    (case p43 => first | rfl | k_is)
    (case n43 => first | k_is | rfl | decide +kernel)
    (case h43 => kernel_rfl)
    (case y43 => decide +kernel)
    (case sp1 => k_is)
    (case sp2 => k_is)
    (case ea0 => k_is)
    (case el0 => k_is)
    (case er0 => first | rfl | decide +kernel)
    (case esa0 => k_is)
    (case eex0 => k_is)
    (case ety0 => k_is)
    (case ekp0 => k_is)
    (case ega0 => k_is)
    (case egg0 => k_is)
    (case ehd0 => k_is)
    (case eca0 => k_is)
    (case emr0 => k_is)
    (case ea1 => k_is)
    (case el1 => k_is)
    (case er1 => first | rfl | decide +kernel)
    (case esa1 => k_is)
    (case eex1 => k_is)
    (case ety1 => k_is)
    (case ekp1 => k_is)
    (case ega1 => k_is)
    (case egg1 => k_is)
    (case ehd1 => k_is)
    (case eca1 => k_is)
    (case emr1 => k_is)
    (case iI1 => k_is)
    (case tI1 => k_is)
    (case lI1 => k_is)
    (case cI1 => k_is)
    (case kI1 => k_is)
    (case eno1_value => k_is)
    (case ea2 => k_is)
    (case el2 => k_is)
    (case er2 => first | rfl | decide +kernel)
    (case esa2 => k_is)
    (case eex2 => k_is)
    (case ety2 => k_is)
    (case ekp2 => k_is)
    (case ega2 => k_is)
    (case egg2 => k_is)
    (case ehd2 => k_is)
    (case eca2 => k_is)
    (case emr2 => k_is)
    (case iI2 => k_is)
    (case tI2 => k_is)
    (case lI2 => k_is)
    (case cI2 => k_is)
    (case kI2 => k_is)
    (case eno2_value => k_is)
    (case ea3 => k_is)
    (case el3 => k_is)
    (case er3 => first | rfl | decide +kernel)
    (case esa3 => k_is)
    (case eex3 => k_is)
    (case ety3 => k_is)
    (case ekp3 => k_is)
    (case ega3 => k_is)
    (case egg3 => k_is)
    (case ehd3 => k_is)
    (case eca3 => k_is)
    (case emr3 => k_is)
    (case iI3 => k_is)
    (case tI3 => k_is)
    (case lI3 => k_is)
    (case cI3 => k_is)
    (case kI3 => k_is)
    (case eno3_value => k_is)
    (case ea4 => k_is)
    (case el4 => k_is)
    (case er4 => first | rfl | decide +kernel)
    (case esa4 => k_is)
    (case eex4 => k_is)
    (case ety4 => k_is)
    (case ekp4 => k_is)
    (case ega4 => k_is)
    (case egg4 => k_is)
    (case ehd4 => k_is)
    (case eca4 => k_is)
    (case emr4 => k_is)
    (case iI4 => k_is)
    (case tI4 => k_is)
    (case lI4 => k_is)
    (case cI4 => k_is)
    (case kI4 => k_is)
    (case eno4_value => k_is)
    (case ea5 => k_is)
    (case el5 => k_is)
    (case er5 => first | rfl | decide +kernel)
    (case esa5 => k_is)
    (case eex5 => k_is)
    (case ety5 => k_is)
    (case ekp5 => k_is)
    (case ega5 => k_is)
    (case egg5 => k_is)
    (case ehd5 => k_is)
    (case eca5 => k_is)
    (case emr5 => k_is)
    (case iI5 => k_is)
    (case tI5 => k_is)
    (case lI5 => k_is)
    (case cI5 => k_is)
    (case kI5 => k_is)
    (case eno5_place => k_is)
    (case eno5_index => k_is)
    (case ea6 => k_is)
    (case el6 => k_is)
    (case er6 => first | rfl | decide +kernel)
    (case esa6 => k_is)
    (case eex6 => k_is)
    (case ety6 => k_is)
    (case ekp6 => k_is)
    (case ega6 => k_is)
    (case egg6 => k_is)
    (case ehd6 => k_is)
    (case eca6 => k_is)
    (case emr6 => k_is)
    (case iI6 => k_is)
    (case tI6 => k_is)
    (case lI6 => k_is)
    (case cI6 => k_is)
    (case kI6 => k_is)
    (case eno6_line => k_is)
    (case eno6_place => k_is)
    (case ea7 => k_is)
    (case el7 => k_is)
    (case er7 => first | rfl | decide +kernel)
    (case esa7 => k_is)
    (case eex7 => k_is)
    (case ety7 => k_is)
    (case ekp7 => k_is)
    (case ega7 => k_is)
    (case egg7 => k_is)
    (case ehd7 => k_is)
    (case eca7 => k_is)
    (case emr7 => k_is)
    (case ea8 => k_is)
    (case el8 => k_is)
    (case er8 => first | rfl | decide +kernel)
    (case esa8 => k_is)
    (case eex8 => k_is)
    (case ety8 => k_is)
    (case ekp8 => k_is)
    (case ega8 => k_is)
    (case egg8 => k_is)
    (case ehd8 => k_is)
    (case eca8 => k_is)
    (case emr8 => k_is)
    (case iI8 => k_is)
    (case tI8 => k_is)
    (case lI8 => k_is)
    (case cI8 => k_is)
    (case kI8 => k_is)
    (case eno8_what => k_is)
    (case eno8_limit => k_is)
    (case cl_BadLetters => k_is)
    (case ss_BadLetters => k_is)
    (case cl_BadNumber => k_is)
    (case ss_BadNumber => k_is)
    (case cl_BadEntry => k_is)
    (case ss_BadEntry => k_is)
    (case cl_TooLarge => k_is)
    (case ss_TooLarge => k_is)
    (case cl_BadWord => k_is)
    (case ss_BadWord => k_is)
    (case cl_BadName => k_is)
    (case ss_BadName => k_is)
    (case cl_BadLine => k_is)
    (case ss_BadLine => k_is)
    (case cl_Mismatch => k_is)
    (case ss_Mismatch => k_is)
    (case cl_LagError => k_is)
    (case ss_LagError => k_is)
    (case s_BadNumber_BadLetters => k_is)
    (case s_BadNumber_BadEntry => k_is)
    (case s_BadNumber_TooLarge => k_is)
    (case s_BadNumber_BadWord => k_is)
    (case s_BadNumber_BadName => k_is)
    (case s_BadNumber_BadLine => k_is)
    (case s_BadNumber_Mismatch => k_is)
    (case s_BadNumber_ValueError => k_is)
    (case s_BadNumber_LagError => k_is)
    (case s_BadLetters_BadNumber => k_is)
    (case s_BadLetters_BadEntry => k_is)
    (case s_BadLetters_TooLarge => k_is)
    (case s_BadLetters_BadWord => k_is)
    (case s_BadLetters_BadName => k_is)
    (case s_BadLetters_BadLine => k_is)
    (case s_BadLetters_Mismatch => k_is)
    (case s_BadLetters_ValueError => k_is)
    (case s_BadLetters_LagError => k_is)
    (case s_BadEntry_BadLetters => k_is)
    (case s_BadEntry_BadNumber => k_is)
    (case s_BadEntry_TooLarge => k_is)
    (case s_BadEntry_BadWord => k_is)
    (case s_BadEntry_BadName => k_is)
    (case s_BadEntry_BadLine => k_is)
    (case s_BadEntry_Mismatch => k_is)
    (case s_BadEntry_ValueError => k_is)
    (case s_BadEntry_LagError => k_is)
    (case s_TooLarge_BadLetters => k_is)
    (case s_TooLarge_BadNumber => k_is)
    (case s_TooLarge_BadEntry => k_is)
    (case s_TooLarge_BadWord => k_is)
    (case s_TooLarge_BadName => k_is)
    (case s_TooLarge_BadLine => k_is)
    (case s_TooLarge_Mismatch => k_is)
    (case s_TooLarge_ValueError => k_is)
    (case s_TooLarge_LagError => k_is)
    (case oa0 => k_is)
    (case opg0 => k_is)
    (case ohd0 => k_is)
    (case opo0 => k_is)
    (case osa0 => k_is)
    (case omk0 => k_is)
    (case okc0 => k_is)
    (case on0__read => k_is)
    (case on0__write => k_is)
    (case on0__size => k_is)
    (case on0__begins => k_is)
    (case on0__arcs => k_is)
    (case on0__ends => k_is)
    (case ma0 => k_is)
    (case mi0 => k_is)
    (case ml0 => k_is)
    (case mc0 => k_is)
    (case mk0 => k_is)
    (case mq0_begins => k_is)
    (case mz0_begins => k_is)
    (case mq0_arcs => k_is)
    (case mz0_arcs => k_is)
    (case mq0_ends => k_is)
    (case mz0_ends => k_is)
    (case ma1 => k_is)
    (case mgt1 => k_is)
    (case mtk1 => k_is)
    (case mrc1 => k_is)
    (case ml1 => k_is)
    (case mc1 => k_is)
    (case mk1 => k_is)
    (case ma2 => k_is)
    (case mgt2 => k_is)
    (case mtk2 => k_is)
    (case mrc2 => k_is)
    (case ml2 => k_is)
    (case mc2 => k_is)
    (case mk2 => k_is)
    (case ma3 => k_is)
    (case mgt3 => k_is)
    (case mtk3 => k_is)
    (case mrc3 => k_is)
    (case ml3 => k_is)
    (case mc3 => k_is)
    (case mk3 => k_is)
    (case ma4 => k_is)
    (case mgt4 => k_is)
    (case mtk4 => k_is)
    (case mrc4 => k_is)
    (case ml4 => k_is)
    (case mc4 => k_is)
    (case mk4 => k_is)
    (case ma5 => k_is)
    (case mgt5 => k_is)
    (case mtk5 => k_is)
    (case mrc5 => k_is)
    (case ml5 => k_is)
    (case mc5 => k_is)
    (case mk5 => k_is)
    (case ma6 => k_is)
    (case mgt6 => k_is)
    (case mtk6 => k_is)
    (case mrc6 => k_is)
    (case ml6 => k_is)
    (case mc6 => k_is)
    (case mk6 => k_is)
    (case ma7 => k_is)
    (case mi7 => k_is)
    (case ml7 => k_is)
    (case mc7 => k_is)
    (case mk7 => k_is)
    (case ma8 => k_is)
    (case mi8 => k_is)
    (case ml8 => k_is)
    (case mc8 => k_is)
    (case mk8 => k_is)
    (case z_ValueError => k_is)
    (case z_all => k_is)
    (case z_bool => k_is)
    (case z_enumerate => k_is)
    (case z_int => k_is)
    (case z_isinstance => k_is)
    (case z_iter => k_is)
    (case z_len => k_is)
    (case z_list => k_is)
    (case z_max => k_is)
    (case z_min => k_is)
    (case z_range => k_is)
    (case z_set => k_is)
    (case z_sorted => k_is)
    (case z_str => k_is)
    (case z_tuple => k_is)
    (case c_MAX_LETTERS => k_is)
    (case c_MAX_WRITTEN => k_is)
    (case c_MAX_STATES => k_is)
    (case c_MAX_ENTRIES => k_is)
    (case c_SMALL_LETTERS => k_is)
    (case one => decide +kernel)
