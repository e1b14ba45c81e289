import PyProof.Rows.All
import Wide.All
import OpenK.AllK
import Wide.FinOn
import PyProof.EqAt
import PyProof.EqKinds
import PyProof.TupleCall
import HandS.ForMost
import PyProof.Rows.StrMul
import HandS.Lambda
import HandS.AnyAll
import HandS.EndTab
import HandS.IsInst
import KE.GoesZip
import KE.GoesMore
import HandS.Codes
import KE.DatumOrd
import HandS.Walk
import HandS.Words
import HandS.Nested
import HandS.ExcInit
import HandS.ExcField
import HandS.ExcIs
import HandS.WordsExc
import KE.KExcIs
import HandS.Wide
import HandS.WideBits
import HandS.StrMore
import PyProof.StrLawsOcc
import HandS.TupLe
import HandS.RevTup
import PyProof.JoinWalk
import HandS.Strs
import HandS.Set
import HandS.SetTxt0
import PyProof.ListStr
import PyProof.Rows.SetFrom
import HandS.SortKw
import KE.SortKeyHeap
import PyProof.Rows.StrMeet
import KE.DataMinKey
import HandS.Style
import PyProof.Rows.StrRev
import HandS.Conv
import PySem.Challenge.RW_lagbound_k04_words_in_order
set_option Elab.async false
set_option linter.all false
set_option maxRecDepth 100000
set_option maxHeartbeats 4000000
namespace Lb
open PySem PySem.Spec PyProof.Rows L2
/-! ### texts as lists of their signs -/
def cs (x : Str) : List Nat := x.cps.toList
theorem cs_len (x : Str) : (cs x).length = x.length := by
  show x.cps.toList.length = x.cps.size
  rw [Array.length_toList]
theorem cs_ext {x y : Str} (h : cs x = cs y) : x = y := Str.ext' (Array.toList_inj.mp h)
theorem cs_app (x y : Str) : cs (x ++ y) = cs x ++ cs y := by
  show (x.cps ++ y.cps).toList = x.cps.toList ++ y.cps.toList
  rw [Array.toList_append]
theorem cs_mk (l : List Nat) : cs ⟨l.toArray⟩ = l := by
  show l.toArray.toList = l
  rfl
theorem cs_one (c : Nat) : cs ⟨#[c]⟩ = [c] := rfl
theorem cs_empty : cs (Str.ofString "") = [] := by decide +kernel
theorem foldl_app (ls : List (Array Nat)) : ∀ a : Array Nat, (ls.foldl (· ++ ·) a).toList = a.toList ++ (ls.map Array.toList).flatten := by
  induction ls with
  | nil => intro a; simp
  | cons x r ih => intro a; rw [List.foldl_cons, ih]; simp
theorem cs_mul (x : Str) (n : Int) : cs (Txt.mul x n) = (List.replicate n.toNat (cs x)).flatten := by
  unfold Txt.mul
  by_cases h1 : n < 1
  · rw [if_pos h1]
    have e : n.toNat = 0 := by omega
    rw [e]
    rfl
  · rw [if_neg h1]
    by_cases h2 : (n == 1 || x.length == 0) = true
    · rw [if_pos h2]
      rw [Bool.or_eq_true, beq_iff_eq, beq_iff_eq] at h2
      rcases h2 with rfl | h2
      · show cs x = (List.replicate 1 (cs x)).flatten
        simp
      · have e : cs x = [] := List.length_eq_zero_iff.mp (by rw [cs_len]; exact h2)
        rw [e]
        simp
    · rw [if_neg h2]
      show ((List.replicate n.toNat x.cps).foldl (· ++ ·) #[]).toList = _
      rw [foldl_app]
      simp [cs]
theorem mem_mul {x : Str} {n : Int} {c : Nat} (h : c ∈ cs (Txt.mul x n)) : c ∈ cs x := by
  rw [cs_mul, List.mem_flatten] at h
  obtain ⟨l, hl, hc⟩ := h
  rw [(List.mem_replicate.mp hl).2] at hc
  exact hc
theorem length_mul (x : Str) (n : Int) : (Txt.mul x n).length = x.length * n.toNat := by
  have e : ∀ k : Nat, ((List.replicate k (cs x)).flatten).length = x.length * k := by
    intro k
    induction k with
    | zero => rfl
    | succ k ih => rw [List.replicate_succ, List.flatten_cons, List.length_append, ih, cs_len, Nat.mul_succ, Nat.add_comm]
  rw [← cs_len, cs_mul]
  exact e _
theorem op_rep_str {X : Cx} : OpR X (binaryOp .Mult) (fun x y H Q => ∃ (i : Str) (n : Int), x = .str i ∧ y = .int n ∧ i.length ≤ 16 ∧ -(2 ^ 62) ≤ n ∧ n ≤ 1048576 ∧ Q (.str (Txt.mul i n)) H) := by
  intro pins s σ H x y v u Q I rx ry h
  obtain ⟨i, n, rfl, rfl, hi, h0, h1, q⟩ := h
  obtain ⟨t, rfl⟩ := rx
  obtain ⟨t', rfl⟩ := ry
  exact SB.mul (mulOk_of 16 1048576 hi h1 (by omega) (by decide) (by decide)) fun t' tk => ⟨.str (Txt.mul i n), H, I.tok _, ⟨_, rfl⟩, q⟩
theorem cs_cut (z : Str) (lo hi : Option Int) : cs (cutS z lo hi) = ((cs z).drop (HT.sIx z.length 0 lo)).take (HT.sIx z.length z.length hi - HT.sIx z.length 0 lo) := rfl
theorem cs_upto (z : Str) (k : Nat) : cs (cutS z none (some (k : Int))) = (cs z).take k := by
  rw [cs_cut, HT.sIx_none, HT.sIx_nat, List.drop_zero, Nat.sub_zero, ← cs_len]
  by_cases h : k ≤ (cs z).length
  · rw [Nat.min_eq_left h]
  · rw [Nat.min_eq_right (by omega), List.take_of_length_le (Nat.le_refl _), List.take_of_length_le (by omega)]
theorem cs_from (z : Str) (k : Nat) : cs (cutS z (some (k : Int)) none) = (cs z).drop k := by
  rw [cs_cut, HT.sIx_none, HT.sIx_nat, ← cs_len]
  by_cases h : k ≤ (cs z).length
  · rw [Nat.min_eq_left h, List.take_of_length_le (by rw [List.length_drop]; omega)]
  · rw [Nat.min_eq_right (by omega), Nat.sub_self, List.take_zero, List.drop_eq_nil_of_le (by omega)]
theorem mem_cut {z : Str} {lo hi : Option Int} {c : Nat} (h : c ∈ cs (cutS z lo hi)) : c ∈ cs z := by
  rw [cs_cut] at h
  exact List.mem_of_mem_drop (List.mem_of_mem_take h)
theorem cut_len (z : Str) (lo hi : Option Int) : (cutS z lo hi).length ≤ z.length := cutS_length z lo hi
theorem join_nil : Txt.join (Str.ofString "") [] = Str.ofString "" := rfl
theorem cs_join0 : ∀ ys : List Str, cs (Txt.join (Str.ofString "") ys) = (ys.map cs).flatten
  | [] => cs_empty
  | [x] => by
    show cs x = ([x].map cs).flatten
    simp
  | x :: y :: r => by
    have e : Txt.join (Str.ofString "") (x :: y :: r) = x ++ Str.ofString "" ++ Txt.join (Str.ofString "") (y :: r) := by
      unfold Txt.join
      first
        | rfl
        | (rw [StrLaws.glued_eq_join, StrLaws.glued_eq_join]; rfl)
    rw [e, cs_app, cs_app, cs_empty, cs_join0 (y :: r)]
    simp
/-- the word's letters are letters of z -/
def Over (z w : Str) : Prop := ∀ c ∈ cs w, c ∈ cs z
theorem Over.app {z x y : Str} (h : Over z x) (k : Over z y) : Over z (x ++ y) := fun c m => by
  rw [cs_app] at m
  rcases List.mem_append.mp m with m | m
  · exact h c m
  · exact k c m
theorem Over.mul {z x : Str} {n : Int} (h : Over z x) : Over z (Txt.mul x n) := fun c m => h c (mem_mul m)
theorem Over.cut {z x : Str} {lo hi : Option Int} (h : Over z x) : Over z (cutS x lo hi) := fun c m => h c (mem_cut m)
theorem Over.one {z : Str} {c : Nat} (h : c ∈ cs z) : Over z ⟨#[c]⟩ := fun d m => by
  rw [cs_one] at m
  rw [List.mem_singleton.mp m]
  exact h
theorem Over.empty {z : Str} : Over z (Str.ofString "") := fun c m => by
  rw [cs_empty] at m
  exact absurd m List.not_mem_nil
theorem length_app (x y : Str) : (x ++ y).length = x.length + y.length := Str.length_append x y
theorem small_text {n : Nat} (h : n ≤ 1000000) : n ≤ sizeLine := Nat.le_trans h (by decide)
end Lb
namespace Lb
open PySem PySem.Spec PyProof.Rows L2
def abc : Str := Str.ofString "abcdefghijklmnopqrstuvwxyz"
theorem cs_abc : cs abc = List.range' 97 26 := by decide +kernel
theorem len_abc : abc.length = 26 := by decide +kernel
/-- one to four letters from a to z, ascending -/
structure IsAlpha (z : Str) : Prop where
  asc : (cs z).Pairwise (· < ·)
  low : ∀ c ∈ cs z, 97 ≤ c ∧ c ≤ 122
  len1 : 1 ≤ z.length
  len4 : z.length ≤ 4
theorem IsAlpha.small {z : Str} (h : IsAlpha z) : z.length ≤ 1000000 := Nat.le_trans h.len4 (by decide)
theorem IsAlpha.nodup {z : Str} (h : IsAlpha z) : (cs z).Nodup := h.asc.imp fun e => Nat.ne_of_lt e
theorem abc_asc : (cs abc).Pairwise (· < ·) := by
  rw [cs_abc]
  exact List.pairwise_lt_range'
theorem abc_low : ∀ c ∈ cs abc, 97 ≤ c ∧ c ≤ 122 := fun c h => by
  rw [cs_abc, List.mem_range'_1] at h
  omega
theorem abc_upto {k : Nat} (h1 : 1 ≤ k) (h4 : k ≤ 4) : IsAlpha (cutS abc none (some (k : Int))) where
  asc := by
    rw [cs_upto]
    exact abc_asc.sublist (List.take_sublist _ _)
  low := fun c h => abc_low c (mem_cut h)
  len1 := by
    rw [← cs_len, cs_upto, List.length_take, cs_len, len_abc]
    omega
  len4 := by
    rw [← cs_len, cs_upto, List.length_take, cs_len, len_abc]
    omega
theorem abc_from {k : Nat} (h1 : 22 ≤ k) (h4 : k ≤ 25) : IsAlpha (cutS abc (some (k : Int)) none) where
  asc := by
    rw [cs_from]
    exact abc_asc.sublist (List.drop_sublist _ _)
  low := fun c h => abc_low c (mem_cut h)
  len1 := by
    rw [← cs_len, cs_from, List.length_drop, cs_len, len_abc]
    omega
  len4 := by
    rw [← cs_len, cs_from, List.length_drop, cs_len, len_abc]
    omega
theorem starts_iff (x p : Str) : Txt.startswith x p = decide ((cs x).take p.length = cs p) := by
  unfold Txt.startswith
  rw [StrLaws.subAt_eq, List.drop_zero, Nat.zero_add]
  show (decide (p.length ≤ x.length) && ((cs x).take p.length == cs p)) = _
  by_cases h : (cs x).take p.length = cs p
  · have hl : p.length ≤ x.length := by
      rw [← cs_len, ← h, List.length_take, cs_len]
      omega
    rw [decide_eq_true hl, decide_eq_true h, beq_iff_eq.mpr h]
    rfl
  · rw [decide_eq_false h, beq_eq_false_iff_ne.mpr h, Bool.and_false]
end Lb

namespace Lb
open PySem PySem.Spec PyProof.Rows L2
/-! ### the text's tables of code objects; what stands while a def runs -/
/-- the tables of the text's defs that make generators or lambdas: where they are, and the name their code objects bear -/
class Tabl where
  T : List (Addr × Str)
  one : ∀ p ∈ T, ∀ q ∈ T, p.1 = q.1 → p.2 = q.2
abbrev Good [Tabl] (H : Hp) : Prop := LamX.Tabs Tabl.T H
/-- no table -/
abbrev NoT (o : HO) : Prop := ∀ ps, o ≠ .tbl ps
/-- a list, a dict, a set or an instance: what a def may change -/
def Mut : HO → Prop
  | .lst _ | .dK _ | .dT _ | .set _ _ | .ins _ _ _ => True
  | _ => False
theorem Mut.noT {o : HO} (h : Mut o) : NoT o := fun ps e => by
  rw [e] at h
  exact h
theorem tabS_upd {H : Hp} {P p : Addr} {q : Str} {o : HO} (t : LamX.TabS H P q) (h : H p = none ∨ ∃ u, H p = some u ∧ Mut u) : LamX.TabS (upd H p o) P q := by
  obtain ⟨ps, h1, h2, h3⟩ := t
  have ne : ∀ b u, H b = some u → ¬ Mut u → b ≠ p := fun b u e m z => by
    rw [z] at e
    rcases h with h | ⟨v, h, k⟩
    · rw [h] at e
      cases e
    · rw [h] at e
      rw [Option.some.inj e] at k
      exact m k
  refine ⟨ps, by rw [upd_ne (ne P _ h1 id)]; exact h1, h2, fun pos cv hc => ?_⟩
  obtain ⟨c, e1, e2⟩ := h3 pos cv hc
  exact ⟨c, e1, by rw [upd_ne (ne c _ e2 id)]; exact e2⟩
section
variable [Tabl]
/-- what stood stands; the tables may have grown -/
structure Same (H H' : Hp) : Prop where
  old : ∀ b o, H b = some o → (_ : NoT o := by intro _ z; cases z) → H' b = some o
  tab : ∀ b ps, H b = some (.tbl ps) → ∃ qs, H' b = some (.tbl qs)
  good : Good H → Good H'
instance {H H' : Hp} : CoeFun (Same H H') fun _ => ∀ b o, H b = some o → (_ : NoT o := by intro _ z; cases z) → H' b = some o := ⟨@Same.old _ H H'⟩
theorem Same.refl (H : Hp) : Same H H := ⟨fun _ _ h _ => h, fun _ ps h => ⟨ps, h⟩, id⟩
theorem Same.trans {H H1 H2 : Hp} (p : Same H H1) (q : Same H1 H2) : Same H H2 :=
  ⟨fun b o h n => q.old b o (p.old b o h n) n, fun b ps h => let ⟨qs, e⟩ := p.tab b ps h; q.tab b qs e, fun g => q.good (p.good g)⟩
theorem Same.free {H H' : Hp} {p : Addr} (s : Same H H') (n : H' p = none) : H p = none := by
  cases e : H p with
  | none => rfl
  | some o =>
    by_cases k : NoT o
    · rw [s.old _ _ e k] at n
      cases n
    · have ⟨ps, z⟩ : ∃ ps, o = .tbl ps := Classical.byContradiction fun c => k fun ps z => c ⟨ps, z⟩
      rw [z] at e
      obtain ⟨qs, e'⟩ := s.tab _ _ e
      rw [e'] at n
      cases n
theorem same_new {H : Hp} {p : Addr} {o : HO} (h : H p = none) : Same H (upd H p o) where
  old b x e _ := by
    rw [upd_ne (ne_of_none e h)]
    exact e
  tab b ps e := ⟨ps, by rw [upd_ne (ne_of_none e h)]; exact e⟩
  good g := fun t ht => tabS_upd (g t ht) (.inl h)
/-- all but the object at a stands -/
structure But (a : Addr) (H H' : Hp) : Prop where
  old : ∀ b o, b ≠ a → H b = some o → (_ : NoT o := by intro _ z; cases z) → H' b = some o
  tab : ∀ b ps, H b = some (.tbl ps) → ∃ qs, H' b = some (.tbl qs)
  good : Good H → Good H'
instance {a : Addr} {H H' : Hp} : CoeFun (But a H H') fun _ => ∀ b o, b ≠ a → H b = some o → (_ : NoT o := by intro _ z; cases z) → H' b = some o := ⟨@But.old _ a H H'⟩
theorem But.refl {a : Addr} (H : Hp) : But a H H := ⟨fun _ _ _ h _ => h, fun _ ps h => ⟨ps, h⟩, id⟩
theorem But.trans {a : Addr} {H H1 H2 : Hp} (p : But a H H1) (q : But a H1 H2) : But a H H2 :=
  ⟨fun b o n h k => q.old b o n (p.old b o n h k) k, fun b ps h => let ⟨qs, e⟩ := p.tab b ps h; q.tab b qs e, fun g => q.good (p.good g)⟩
theorem But.same {a : Addr} {H H' : Hp} (p : Same H H') : But a H H' := ⟨fun b o _ h k => p.old b o h k, p.tab, p.good⟩
theorem But.put {a : Addr} {H : Hp} {o u : HO} (h : H a = some u) (m : Mut u := by trivial) : But a H (upd H a o) where
  old b x n e _ := by
    rw [upd_ne n]
    exact e
  tab b ps e := ⟨ps, by
    rw [upd_ne (fun z => by rw [z, h] at e; rw [Option.some.inj e] at m; exact m)]
    exact e⟩
  good g := fun t ht => tabS_upd (g t ht) (.inr ⟨u, h, m⟩)
theorem But.new {a : Addr} {H : Hp} {p : Addr} {o : HO} (h : H p = none) : But a H (upd H p o) := But.same (same_new h)
theorem But.free {a p : Addr} {H H' : Hp} (s : But a H H') (n : H' p = none) (na : p ≠ a) : H p = none := by
  cases e : H p with
  | none => rfl
  | some o =>
    by_cases k : NoT o
    · rw [s.old _ _ na e k] at n
      cases n
    · have ⟨ps, z⟩ : ∃ ps, o = .tbl ps := Classical.byContradiction fun c => k fun ps z => c ⟨ps, z⟩
      rw [z] at e
      obtain ⟨qs, e'⟩ := s.tab _ _ e
      rw [e'] at n
      cases n
/-- a new object, changed since: what stood stands -/
theorem But.grown {a p : Addr} {H H1 H2 : Hp} {o u : HO} (b1 : But a H H1) (n : H1 p = none) (b2 : But a H H2) (h : H2 p = some u) (m : Mut u := by trivial) : But a H (upd H2 p o) where
  old b x hb e k := by
    rw [upd_ne (fun z => by rw [z] at e hb; rw [b1.old _ _ hb e k] at n; cases n)]
    exact b2.old b x hb e k
  tab b ps e := by
    obtain ⟨qs, e'⟩ := b2.tab b ps e
    exact ⟨qs, by rw [upd_ne (fun z => by rw [z, h] at e'; rw [Option.some.inj e'] at m; exact m)]; exact e'⟩
  good g := fun t ht => tabS_upd (b2.good g t ht) (.inr ⟨u, h, m⟩)
/-- a new object, made since and changed: what stood stands -/
theorem Same.grown {p : Addr} {H H1 H2 : Hp} {o u : HO} (b1 : Same H H1) (n : H1 p = none) (b2 : Same H H2) (h : H2 p = some u) (m : Mut u := by trivial) : Same H (upd H2 p o) where
  old b x e k := by
    rw [upd_ne (fun z => by rw [z] at e; rw [b1.old _ _ e k] at n; cases n)]
    exact b2.old b x e k
  tab b ps e := by
    obtain ⟨qs, e'⟩ := b2.tab b ps e
    exact ⟨qs, by rw [upd_ne (fun z => by rw [z, h] at e'; rw [Option.some.inj e'] at m; exact m)]; exact e'⟩
  good g := fun t ht => tabS_upd (b2.good g t ht) (.inr ⟨u, h, m⟩)
/-- a table has grown by a new code object of the name that it bears -/
theorem same_code {H : Hp} {P c : Addr} {q : Str} {ps : Array Value} {pos : Pos} (tab : H P = some (.tbl ps)) (tri : TriplesOk ps.toList) (bears : ∀ (pos : Pos) (cv : Value), codeAmong pos ps.toList = some cv → ∃ c, cv = .ref c ∧ H c = some (LamX.CodeO c q)) (nC : H c = none) (hm : (P, q) ∈ Tabl.T) :
    Same H (upd (upd H P (.tbl (ps ++ #[rawInt pos.line, rawInt pos.col, .ref c]))) c (LamX.CodeO c q)) := by
  have keep : ∀ b o, H b = some o → NoT o → upd (upd H P (.tbl (ps ++ #[rawInt pos.line, rawInt pos.col, .ref c]))) c (LamX.CodeO c q) b = some o := fun b o e n => by
    rw [upd_ne (ne_of_none e nC), upd_ne (fun z => n ps (Option.some.inj (e.symm.trans (by rw [z]; exact tab))))]
    exact e
  have list : (ps ++ #[rawInt pos.line, rawInt pos.col, Value.ref c]).toList = ps.toList ++ [rawInt pos.line, rawInt pos.col, .ref c] := by simp
  refine ⟨keep, fun b qs e => ?_, fun g p hp => ?_⟩
  · by_cases z : b = P
    · exact ⟨_, by rw [z, upd_ne (ne_of_none tab nC), upd_same]⟩
    · exact ⟨qs, by rw [upd_ne (ne_of_none e nC), upd_ne z]; exact e⟩
  · by_cases z : p.1 = P
    · have e2 : p.2 = q := Tabl.one _ hp _ hm z
      rw [z, e2]
      refine ⟨_, by rw [upd_ne (ne_of_none tab nC), upd_same], by rw [list]; exact PySem.TriplesOk_snoc _ _ _ _ tri, fun p' cv h => ?_⟩
      rw [list] at h
      rcases LamX.among_app _ tri h with k | k
      · obtain ⟨c0, e1, e2⟩ := bears p' cv k
        exact ⟨c0, e1, keep _ _ e2 LamX.codeO_ne⟩
      · exact ⟨c, k, upd_same⟩
    · obtain ⟨qs, a1, a2, a3⟩ := g p hp
      refine ⟨qs, by rw [upd_ne (ne_of_none a1 nC), upd_ne z]; exact a1, a2, fun p' cv h => ?_⟩
      obtain ⟨c0, e1, e2⟩ := a3 p' cv h
      exact ⟨c0, e1, keep _ _ e2 LamX.codeO_ne⟩
end
end Lb

namespace Lb
open PySem PySem.Spec PyProof.Rows L2
/-- the tables of the text's defs are empty when the law is called -/
def Empty (names : List Str) (K : PySem.W.Frag) (mg : Str → Option Value) (h : Heap) : Prop :=
  ∀ (x : Str) (f c P : Addr) (o : Obj) (fd : FuncData) (e : Value) (dd : Option Addr) (vs : Array Value) (sl : Array (Option Value)), x ∈ names → mg x = some (.ref f) → K.lookup f = some o → o.data = .func fd → fd.code = .ref c →
    K.lookup c = some ⟨e, dd, .fields vs, sl⟩ → vs[11]? = some (.ref P) → h.get? P = some { cls := .none, data := .fields #[] }
/-- the law: called with at most 63 ints it answers True -/
def sp_law [Tabl] (K : PySem.W.Frag) : Sp := fun vs H Q _ => ∃ (a : Addr) (ns : List Int), vs = [.ref a] ∧ SqL K H a (ns.map V.int) ∧ ns.length ≤ 63 ∧ Good H ∧ ∀ H', Q (.bl true) H'
theorem walk_tabs {l : PySem.W.OpenLaw} {n k : Nat} {q : Program} {loose : List Str} {XP : (Str → Option Value) → Heap → Prop} {YP : World → Heap → Prop} {d : DefRec} {K : Params → PySem.W.Frag} {CX : World → CXT} {x : Str} (most : l.most = some n) (small : n ≤ sizeLine) (plain : d.params.defaults = []) (room : Room k callerA)
    (inK : ∀ (w : World) (h : Heap), YP w h → (K w.params).In h) (F : ∀ (w : World) (mg : Str → Option Value) (fa : Addr) (h : Heap), (K w.params).In h → h.Ns mainGlobals mg → mg d.name = some (.ref fa) → Empty ((recsOf q).map (·.name)) (K w.params) mg h → LamX.LawAtS l w (K w.params) (CX w) k n x mg fa h)
    (none_out : ∀ (w : World) (H : Hp) (s : Shared) (e : Value) (s' : Shared), ¬ CX w [] H s (fun _ _ _ => False) e s') : PySem.W.WalkO q loose XP YP l.row.toRowW d [] (fun f vs => PySem.call f vs) := by
  refine Att.attach_callB most plain fun w s0 s mg mb fa o pm cd doc a vs ns G Y ho hd hcd global obj its len bits gens => ?_
  have KX := inK w _ Y
  have E : Empty ((recsOf q).map (·.name)) (K w.params) mg s.heap := fun y f c P o1 fd1 e dd vs1 sl hy k1 k2 k3 k4 k5 k6 => by
    obtain ⟨r, hr, er⟩ := List.mem_map.mp hy
    obtain ⟨_, _, _, _, _, t1, t2, t3, t4, t5, ⟨oc, vc, u1, _, u3, u4⟩, t6⟩ := G.T.tab r hr
    rw [show r.name = y from er, k1] at t1
    cases t1
    cases (KX _ _ k2).symm.trans t2
    cases k3.symm.trans t3
    cases k4.symm.trans t4
    cases (KX _ _ k5).symm.trans u1
    cases u3
    cases k6.symm.trans u4
    exact t6
  obtain ⟨fd, cs, sp, c1, c2, c3, c4, c5, c6⟩ := F w mg fa _ KX G.T.g global E
  exact LamX.law_callTs KX G.T.g G.T.b G.T.builtins G.T.nolimit gens c1 c2 c3 G.T.bmain obj its (Nat.le_trans len small) room c6 c4 (fun H e hS => c5 H a ns len bits e hS) fun H e s' z => none_out w H s e s' z
end Lb

namespace Lb
open PySem PySem.Spec PyProof.Rows L2
/-! ### plain values by their outermost kind -/
def NoTxt (H : Hp) (v : V) : Prop := v = .non ∨ (∃ b, v = .bl b) ∨ (∃ i, v = .int i) ∨ ∃ p xs, v = .ref p ∧ (H p = some (.lst xs) ∨ H p = some (.tup xs))
def Shal (H : Hp) (v : V) : Prop := (∃ x : Str, v = .str x ∧ x.length ≤ 1000000) ∨ NoTxt H v
theorem NoTxt.same [Tabl] {H H' : Hp} {v : V} (h : NoTxt H v) (s : Same H H') : NoTxt H' v := by
  rcases h with h | h | h | ⟨p, xs, e, h⟩
  · exact .inl h
  · exact .inr (.inl h)
  · exact .inr (.inr (.inl h))
  · exact .inr (.inr (.inr ⟨p, xs, e, h.elim (fun q => .inl (s _ _ q)) fun q => .inr (s _ _ q)⟩))
theorem Shal.same [Tabl] {H H' : Hp} {v : V} (h : Shal H v) (s : Same H H') : Shal H' v := h.elim .inl fun q => .inr (q.same s)
theorem shal_str {H : Hp} {x : Str} (h : x.length ≤ 1000000) : Shal H (.str x) := .inl ⟨x, rfl, h⟩
theorem shal_int {H : Hp} {i : Int} : Shal H (.int i) := .inr (.inr (.inr (.inl ⟨i, rfl⟩)))
theorem noTxt_str {H : Hp} {x : Str} (h : NoTxt H (.str x)) : False := by
  rcases h with h | ⟨b, h⟩ | ⟨i, h⟩ | ⟨p, xs, h, _⟩ <;> cases h
def isStr : V → Bool
  | .str _ => true
  | _ => false
def isInt : V → Bool
  | .int _ => true
  | _ => false
def isBl : V → Bool
  | .bl _ => true
  | _ => false
/-- isinstance(v, str) -/
theorem isi_str {K : PySem.W.Frag} {H : Hp} {v : V} (h : Shal H v) : ∃ t : Value, TyX K H v t ∧ PySem.W.kitOne K t (.type "str") = some (isStr v) := by
  rcases h with ⟨x, rfl, _⟩ | rfl | ⟨b, rfl⟩ | ⟨i, rfl⟩ | ⟨p, xs, rfl, h | h⟩
  · exact ⟨_, .base (.str x), kit_ty (show kitB "str" "str" = some true by decide +kernel)⟩
  · exact ⟨_, .base .non, kit_ty (show kitB "NoneType" "str" = some false by decide +kernel)⟩
  · exact ⟨_, .base (.bl b), kit_ty (show kitB "bool" "str" = some false by decide +kernel)⟩
  · exact ⟨_, .base (.int i), kit_ty (show kitB "int" "str" = some false by decide +kernel)⟩
  · exact ⟨_, .base (.lst h), kit_ty (show kitB "list" "str" = some false by decide +kernel)⟩
  · exact ⟨_, .base (.tup h), kit_ty (show kitB "tuple" "str" = some false by decide +kernel)⟩
/-- isinstance(v, int) -/
theorem isi_int {K : PySem.W.Frag} {H : Hp} {v : V} (h : Shal H v) : ∃ t : Value, TyX K H v t ∧ PySem.W.kitOne K t (.type "int") = some (isInt v || isBl v) := by
  rcases h with ⟨x, rfl, _⟩ | rfl | ⟨b, rfl⟩ | ⟨i, rfl⟩ | ⟨p, xs, rfl, h | h⟩
  · exact ⟨_, .base (.str x), kit_ty (show kitB "str" "int" = some false by decide +kernel)⟩
  · exact ⟨_, .base .non, kit_ty (show kitB "NoneType" "int" = some false by decide +kernel)⟩
  · exact ⟨_, .base (.bl b), kit_ty (show kitB "bool" "int" = some true by decide +kernel)⟩
  · exact ⟨_, .base (.int i), kit_ty (show kitB "int" "int" = some true by decide +kernel)⟩
  · exact ⟨_, .base (.lst h), kit_ty (show kitB "list" "int" = some false by decide +kernel)⟩
  · exact ⟨_, .base (.tup h), kit_ty (show kitB "tuple" "int" = some false by decide +kernel)⟩
/-- isinstance(v, bool) -/
theorem isi_bool {K : PySem.W.Frag} {H : Hp} {v : V} (h : Shal H v) : ∃ t : Value, TyX K H v t ∧ PySem.W.kitOne K t (.type "bool") = some (isBl v) := by
  rcases h with ⟨x, rfl, _⟩ | rfl | ⟨b, rfl⟩ | ⟨i, rfl⟩ | ⟨p, xs, rfl, h | h⟩
  · exact ⟨_, .base (.str x), kit_ty (show kitB "str" "bool" = some false by decide +kernel)⟩
  · exact ⟨_, .base .non, kit_ty (show kitB "NoneType" "bool" = some false by decide +kernel)⟩
  · exact ⟨_, .base (.bl b), kit_ty (show kitB "bool" "bool" = some true by decide +kernel)⟩
  · exact ⟨_, .base (.int i), kit_ty (show kitB "int" "bool" = some false by decide +kernel)⟩
  · exact ⟨_, .base (.lst h), kit_ty (show kitB "list" "bool" = some false by decide +kernel)⟩
  · exact ⟨_, .base (.tup h), kit_ty (show kitB "tuple" "bool" = some false by decide +kernel)⟩
theorem isStr_of {v : V} (h : isStr v = true) : ∃ x, v = .str x := by
  cases v <;> first | exact ⟨_, rfl⟩ | cases h
theorem isInt_of {v : V} (h : isInt v = true) : ∃ x, v = .int x := by
  cases v <;> first | exact ⟨_, rfl⟩ | cases h
theorem Shal.text {H : Hp} {x : Str} (h : Shal H (.str x)) : x.length ≤ 1000000 := by
  rcases h with ⟨y, e, l⟩ | h
  · cases e
    exact l
  · exact (noTxt_str h).elim
end Lb

namespace L2
open PySem PySem.Spec PyProof.Rows
/-! zip of two texts, walked by a for: the pairs of their signs, as many as the shorter one has -/
def Itzs (x y : Str) : It :=
  ⟨fun i _ => i < x.cps.size ∧ i < y.cps.size,
    fun i H v H' => ∃ T c d, v = .ref T ∧ H T = none ∧ x.cps[i]? = some c ∧ y.cps[i]? = some d ∧ H' = upd H T (.tup [.str ⟨#[c]⟩, .str ⟨#[d]⟩]),
    fun i _ => i ≤ x.cps.size ∧ i ≤ y.cps.size ∧ (i = x.cps.size ∨ i = y.cps.size)⟩
theorem turn_zipS {P : Program} {w : World} {K : PySem.W.Frag} {elts : List Expr} {kk : Nat} {tpos : Pos} {x y : Str} {t1 t2 : Tok} {z TI TO i1 i2 : Addr} (D : ZipSep2 z TI TO i1 i2 [i1] [i2]) :
    Turn P w K (.Tuple elts kk tpos) (Itzs x y) [z, TI, TO, i1, i2] z (fun i h => IsZip h z TI TO .none ∧ IsPair h TI (.ref i1) (.ref i2) ∧ (∃ a b, IsPair h TO a b) ∧ h.IsStrIter i1 (strIterType x) x t1 i ∧ h.IsStrIter i2 (strIterType y) y t2 i) where
  mem := by simp
  obj := fun i h st c hc => by
    obtain ⟨hz, hTI, ⟨a, b, hTO⟩, ⟨o1, e1, _, d1⟩, ⟨o2, e2, _, d2⟩⟩ := st
    have e' : c = z ∨ c = TI ∨ c = TO ∨ c = i1 ∨ c = i2 := by simpa using hc
    rcases e' with q | q | q | q | q
    · rw [q]; exact ⟨_, hz, fun v q => nomatch q⟩
    · rw [q]; exact ⟨_, hTI, fun v q => nomatch q⟩
    · rw [q]; exact ⟨_, hTO, fun v q => nomatch q⟩
    · rw [q]; exact ⟨o1, e1, fun v q => by rw [d1] at q; cases q⟩
    · rw [q]; exact ⟨o2, e2, fun v q => by rw [d2] at q; cases q⟩
  keep := fun i h h' st k => by
    obtain ⟨hz, hTI, ⟨a, b, hTO⟩, ⟨o1, e1, r1⟩, ⟨o2, e2, r2⟩⟩ := st
    exact ⟨k z (by simp) _ hz, k TI (by simp) _ hTI, ⟨a, b, k TO (by simp) _ hTO⟩, ⟨o1, k i1 (by simp) _ e1, r1⟩, ⟨o2, k i2 (by simp) _ e2, r2⟩⟩
  item := by
    intro X hP hw hK hc i pins s σ H E I hf st hg
    subst hP hw hK
    obtain ⟨hz, hTI, ⟨x0, y0, hTO⟩, h1, h2⟩ := st
    have hzl : z < s.heap.objs.size := Heap.lt_size hz
    have hh : X.A.in1.handled = none := I.ok.hd hc
    refine wpAny_pyNext_zipD2_item D (Draws.text hh i1 x t1) (Draws.text hh i2 y t2) hz hTI hTO h1 h2 hg.1 hg.2 fun v1 v2 h' tk hv1 hv2 z' TO' h1' h2' hT hsz hk => ?_
    obtain ⟨c, u, hc1, rfl⟩ := hv1
    obtain ⟨d, u', hd1, rfl⟩ := hv2
    refine ⟨_, rfl, wpAny_letOwnedTupleGo_zip (s := { s with heap := h', toks := tk }) z' fun h'' z'' sb => ?_⟩
    have hT2 : h''.get? s.heap.objs.size = some { cls := .type "tuple", data := .seq #[.str ⟨#[c]⟩ u, .str ⟨#[d]⟩ u'] } := (sb.2 _ (Nat.ne_of_gt hzl)).trans hT
    have new : ObjOk X.prog X.w (upd H s.heap.objs.size (.tup [.str ⟨#[c]⟩, .str ⟨#[d]⟩])) h'' s.heap.objs.size (.tup [.str ⟨#[c]⟩, .str ⟨#[d]⟩]) :=
      ⟨by show 2 ≤ sizeLine; decide, [.str ⟨#[c]⟩ u, .str ⟨#[d]⟩ u'], .cons ⟨_, rfl⟩ (.cons ⟨_, rfl⟩ .nil), ⟨_, hT2, rfl, _, rfl⟩⟩
    have I1 : Inv X pins σ (upd H s.heap.objs.size (.tup [.str ⟨#[c]⟩, .str ⟨#[d]⟩])) { s with heap := h'', toks := tk } :=
      I.turnedNew (t' := tk) (ch := [z, TI, TO, i1, i2]) (fun c o hb q => (sb.2 c (fun q' => hb (by simp [q']))).trans (hk c o (fun q' => hb (by simp [q'])) (fun q' => hb (by simp [q'])) (fun q' => hb (by simp [q'])) (fun q' => hb (by simp [q'])) q)) hf (Nat.le_refl _) new
    have g1 : i1 ≠ z := fun e => D.zi1 e.symm
    have g2 : i2 ≠ z := fun e => D.zi2 e.symm
    obtain ⟨o1, e1, r1⟩ := h1'
    obtain ⟨o2, e2, r2⟩ := h2'
    obtain ⟨p1, f1, _⟩ := h1
    obtain ⟨p2, f2, _⟩ := h2
    refine ⟨.ref s.heap.objs.size, _, I1, rfl, ⟨_, c, d, rfl, I.hok.fresh (Nat.le_refl _), hc1, hd1, rfl⟩, ⟨z'', ?_, ⟨_, _, (sb.2 _ D.TOz).trans TO'⟩, ⟨o1, (sb.2 _ g1).trans e1, r1⟩, ⟨o2, (sb.2 _ g2).trans e2, r2⟩⟩, fun c hcm => ?_⟩
    · exact (sb.2 _ D.TIz).trans (hk _ _ D.TIz D.TITO D.TIi1 D.TIi2 hTI)
    · have hlt : c < s.heap.objs.size := by
        have e' : c = z ∨ c = TI ∨ c = TO ∨ c = i1 ∨ c = i2 := by simpa using hcm
        rcases e' with q | q | q | q | q
        · rw [q]; exact hzl
        · rw [q]; exact Heap.lt_size hTI
        · rw [q]; exact Heap.lt_size hTO
        · rw [q]; exact Heap.lt_size f1
        · rw [q]; exact Heap.lt_size f2
      rw [upd_ne (Nat.ne_of_lt hlt)]
      exact (hf c hcm).1
  done := by
    intro X hP hw hK hc i pins s σ H E I hf st hg
    subst hP hw hK
    obtain ⟨hz, hTI, ⟨x0, y0, hTO⟩, h1, h2⟩ := st
    have hh : X.A.in1.handled = none := I.ok.hd hc
    exact wpAny_pyNext_zipD2_end D (Draws.text hh i1 x t1) (Draws.text hh i2 y t2) hz hTI hTO h1 h2 hg.1 hg.2.1 hg.2.2 fun h' tk hk => ⟨rfl, I.turnedL (t' := tk) (ch := [z, TI, TO, i1, i2]) (fun c o hb q =>
      hk c o (fun q' => hb (by simp [q'])) (fun q' => hb (by simp [q'])) (fun q' => hb (by simp [q'])) (fun q' => hb (by simp [q'])) q) hf⟩
  self := fun A i s Q E st h => wpAny_pyIter_zip st.1 h
def iZipS (ta : TA) : TI := fun σ H R => ta σ H fun vs H1 => ∃ x y, vs = [.str x, .str y] ∧ R (Itzs x y) H1
theorem pi_zipS {X : Cx} {e e2 : Expr} {ta : TA} {p pos tpos : Pos} {elts : List Expr} {kk : Nat} (hg : Gl X "zip") (hm : X.mg "zip" = none) (ha : PA X [e, e2] ta)
    (hs : starEach [e, e2] X.env = (false, eval e X.env) :: starEach [e2] X.env := by rfl) (hpl : (backTo pos (starEach [e2] X.env)).any (·.1) = false := by rfl) :
    PI X (.Tuple elts kk tpos) (.Call (.Name "zip" p) [e, e2] [] pos) (iZipS ta) := by
  refine ⟨fun pins s σ H R I h => ?_⟩
  refine Call_ (ld_blt I hg hm PyProof.Rows.boot_zip (PyProof.Rows.callWith_type1 (thn (ha.run pos pins s σ H _ I h) fun us s1 ⟨vs, H1, I1, r1, q1⟩ => ?_) hs hpl))
  obtain ⟨x, y, ex, q⟩ := q1
  subst ex
  cases r1 with
  | cons r rr =>
    cases rr with
    | cons r' rr =>
      cases rr
      obtain ⟨t1, rfl⟩ := r
      obtain ⟨t2, rfl⟩ := r'
      refine zip_begins2 (begins_text x t1) (begins_text y t2) trivial trivial fun h' hz hTI hTO h1 h2 hsz hk => wpAny_pyIter_zip hz ?_
      have I2 : Inv X pins σ H1 { s1 with heap := h' } := I1.kept (t' := s1.toks) hk
      have D : ZipSep2 (s1.heap.objs.size + 4) (s1.heap.objs.size + 2) (s1.heap.objs.size + 3) s1.heap.objs.size (s1.heap.objs.size + 1) [s1.heap.objs.size] [s1.heap.objs.size + 1] := by
        constructor <;> simp <;> omega
      refine ⟨s1.heap.objs.size + 4, [s1.heap.objs.size + 4, s1.heap.objs.size + 2, s1.heap.objs.size + 3, s1.heap.objs.size, s1.heap.objs.size + 1], _, _, H1, rfl, I2, turn_zipS (t1 := t1) (t2 := t2) D, ⟨hz, hTI, ⟨_, _, hTO⟩, ⟨_, h1, rfl, rfl⟩, ⟨_, h2, rfl, rfl⟩⟩, fun c hcm => ?_, q⟩
      have e' : c = s1.heap.objs.size + 4 ∨ c = s1.heap.objs.size + 2 ∨ c = s1.heap.objs.size + 3 ∨ c = s1.heap.objs.size ∨ c = s1.heap.objs.size + 1 := by simpa using hcm
      have hle : s1.heap.objs.size ≤ c := by
        rcases e' with z | z | z | z | z <;> rw [z] <;> omega
      exact I1.fpOk hle (I1.hok.fresh hle)
end L2
namespace L2
open PySem PySem.Spec PyProof.Rows
theorem for_zipS {x y : Str} {g : TG} {tb : TS} {D : Ends} {σ : St} {H : Hp} (Pv : Nat → St → Hp → Prop) (h0 : Pv 0 σ H)
    (hs : ∀ (i c d : Nat) (T : Addr) (σ : St) (H : Hp), x.cps.toList[i]? = some c → y.cps.toList[i]? = some d → Pv i σ H → H T = none → g (.ref T) σ (upd H T (.tup [.str ⟨#[c]⟩, .str ⟨#[d]⟩])) fun σ2 H2 => tb { D with nx := Pv (i + 1), ct := Pv (i + 1), bk := D.nx } σ2 H2)
    (hd : ∀ σ H, Pv (min x.cps.toList.length y.cps.toList.length) σ H → D.nx σ H) :
    ∃ W : Nat → Nat → St → Hp → Prop, (∃ m, W 0 m σ H) ∧ ∀ i m σ H, W i m σ H →
      ((Itzs x y).stop i H ∧ D.nx σ H) ∨ ((Itzs x y).go i H ∧ ∃ N : St → Hp → Prop, (∀ σ' H', N σ' H' → ∃ m', m' < m ∧ W (i + 1) m' σ' H') ∧ ∀ v H', (Itzs x y).yld i H v H' → g v σ H' fun σ2 H2 => tb { D with nx := N, ct := N, bk := D.nx } σ2 H2) := by
  have lx : x.cps.toList.length = x.cps.size := Array.length_toList
  have ly : y.cps.toList.length = y.cps.size := Array.length_toList
  refine ⟨fun i m σ H => m = min x.cps.size y.cps.size - i ∧ i ≤ min x.cps.size y.cps.size ∧ Pv i σ H, ⟨_, rfl, Nat.zero_le _, h0⟩, ?_⟩
  rintro i m σ H ⟨rfl, hi, p⟩
  by_cases hlt : i < min x.cps.size y.cps.size
  · refine .inr ⟨⟨by omega, by omega⟩, Pv (i + 1), fun σ' H' p' => ⟨min x.cps.size y.cps.size - (i + 1), by omega, rfl, hlt, p'⟩, fun v H' yl => ?_⟩
    obtain ⟨T, c, d, rfl, nT, hc, hd, rfl⟩ := yl
    exact hs i c d T σ H (by rw [Array.getElem?_toList]; exact hc) (by rw [Array.getElem?_toList]; exact hd) p nT
  · have e : i = min x.cps.size y.cps.size := by omega
    refine .inl ⟨⟨by omega, by omega, by omega⟩, hd σ H ?_⟩
    rw [lx, ly, ← e]
    exact p
end L2

namespace Lb
/-! ### lags -/
def lcp : List Nat → List Nat → Nat
  | a :: x, b :: y => if a = b then lcp x y + 1 else 0
  | _, _ => 0
def IsLag (a b u v : List Nat) : Prop := ∃ f, a = f ++ u ∧ b = f ++ v ∧ (u = [] ∨ v = [] ∨ u.head? ≠ v.head?)
theorem lcp_le : ∀ x y : List Nat, lcp x y ≤ x.length ∧ lcp x y ≤ y.length
  | [], _ => ⟨Nat.le_refl _, Nat.zero_le _⟩
  | _ :: _, [] => ⟨Nat.zero_le _, Nat.le_refl _⟩
  | a :: x, b :: y => by
    unfold lcp
    have ih := lcp_le x y
    by_cases h : a = b
    · rw [if_pos h, List.length_cons, List.length_cons]
      omega
    · rw [if_neg h]
      exact ⟨Nat.zero_le _, Nat.zero_le _⟩
theorem lcp_lag : ∀ x y : List Nat, IsLag x y (x.drop (lcp x y)) (y.drop (lcp x y))
  | [], y => ⟨[], rfl, rfl, .inl rfl⟩
  | a :: x, [] => ⟨[], rfl, rfl, .inr (.inl rfl)⟩
  | a :: x, b :: y => by
    unfold lcp
    by_cases h : a = b
    · subst h
      rw [if_pos rfl]
      obtain ⟨f, e1, e2, e3⟩ := lcp_lag x y
      exact ⟨a :: f, congrArg (a :: ·) e1, congrArg (a :: ·) e2, e3⟩
    · rw [if_neg h]
      exact ⟨[], rfl, rfl, .inr (.inr fun e => h (Option.some.inj e))⟩
theorem IsLag.uniq {a b u v u' v' : List Nat} (h : IsLag a b u v) (k : IsLag a b u' v') : u = u' ∧ v = v' := by
  obtain ⟨f, e1, e2, e3⟩ := h
  obtain ⟨g, d1, d2, d3⟩ := k
  subst e1
  subst e2
  induction f generalizing g with
  | nil =>
    cases g with
    | nil => exact ⟨d1, d2⟩
    | cons c g =>
      have d1' : u = c :: (g ++ u') := d1
      have d2' : v = c :: (g ++ v') := d2
      subst d1'
      subst d2'
      rcases e3 with e | e | e
      · cases e
      · cases e
      · exact absurd rfl e
  | cons c f ih =>
    cases g with
    | nil =>
      have d1' : c :: (f ++ u) = u' := d1
      have d2' : c :: (f ++ v) = v' := d2
      subst d1'
      subst d2'
      rcases d3 with e | e | e
      · cases e
      · cases e
      · exact absurd rfl e
    | cons d g =>
      have x1 : c :: (f ++ u) = d :: (g ++ u') := d1
      have x2 : c :: (f ++ v) = d :: (g ++ v') := d2
      exact ih g (List.cons.inj x1).2 (List.cons.inj x2).2
theorem IsLag.swap {a b u v : List Nat} (h : IsLag a b u v) : IsLag b a v u := by
  obtain ⟨f, e1, e2, e3⟩ := h
  refine ⟨f, e2, e1, ?_⟩
  rcases e3 with e | e | e
  · exact .inr (.inl e)
  · exact .inl e
  · exact .inr (.inr fun z => e z.symm)
/-- moved on -/
theorem IsLag.more {a b u v x y u' v' : List Nat} (h : IsLag a b u v) (k : IsLag (u ++ x) (v ++ y) u' v') : IsLag (a ++ x) (b ++ y) u' v' := by
  obtain ⟨f, e1, e2, e3⟩ := h
  obtain ⟨g, d1, d2, d3⟩ := k
  refine ⟨f ++ g, ?_, ?_, d3⟩
  · rw [e1, List.append_assoc, d1, List.append_assoc]
  · rw [e2, List.append_assoc, d2, List.append_assoc]
theorem IsLag.front {a b u v : List Nat} (c : List Nat) (h : IsLag a b u v) : IsLag (c ++ a) (c ++ b) u v := by
  obtain ⟨f, e1, e2, e3⟩ := h
  exact ⟨c ++ f, by rw [e1, List.append_assoc], by rw [e2, List.append_assoc], e3⟩
theorem IsLag.idem {a b u v : List Nat} (h : IsLag a b u v) : IsLag u v u v := by
  obtain ⟨f, e1, e2, e3⟩ := h
  exact ⟨[], rfl, rfl, e3⟩
theorem IsLag.le {a b u v : List Nat} (h : IsLag a b u v) : u.length ≤ a.length ∧ v.length ≤ b.length := by
  obtain ⟨f, e1, e2, e3⟩ := h
  rw [e1, e2, List.length_append, List.length_append]
  omega
theorem lcp_step {x y : List Nat} {i : Nat} {c d : Nat} (h : x.take i = y.take i) (hc : x[i]? = some c) (hd : y[i]? = some d) : (c = d → x.take (i + 1) = y.take (i + 1)) ∧ (c ≠ d → lcp x y = i) := by
  refine ⟨fun e => ?_, fun n => ?_⟩
  · subst e
    rw [List.take_add_one, List.take_add_one, h, hc, hd]
  · induction i generalizing x y with
    | zero =>
      cases x with
      | nil => cases hc
      | cons a x =>
        cases y with
        | nil => cases hd
        | cons b y =>
          have e1 : a = c := Option.some.inj hc
          have e2 : b = d := Option.some.inj hd
          unfold lcp
          rw [e1, e2, if_neg n]
    | succ i ih =>
      cases x with
      | nil => cases hc
      | cons a x =>
        cases y with
        | nil => cases hd
        | cons b y =>
          have e : a :: x.take i = b :: y.take i := h
          unfold lcp
          rw [if_pos (List.cons.inj e).1, ih (List.cons.inj e).2 hc hd]
theorem lcp_all {x y : List Nat} (h : x.take (min x.length y.length) = y.take (min x.length y.length)) : lcp x y = min x.length y.length := by
  induction x generalizing y with
  | nil =>
    show 0 = _
    rw [List.length_nil, Nat.zero_min]
  | cons a x ih =>
    cases y with
    | nil => rfl
    | cons b y =>
      rw [List.length_cons, List.length_cons, Nat.succ_min_succ] at *
      have e : a :: x.take (min x.length y.length) = b :: y.take (min x.length y.length) := h
      unfold lcp
      rw [if_pos (List.cons.inj e).1, ih (List.cons.inj e).2]
end Lb

namespace Lb
open PySem PySem.Spec PyProof.Rows L2
/-! ### the store that the draws come from -/
/-- the draws' store at a, its cells at c -/
def Sto (H : Hp) (a c : Addr) : Prop := ∃ (ns : List Int) (i b t s : Int), H a = some (.lst [.ref c, .int i, .int b, .int t, .int s]) ∧ H c = some (.lst (ns.map V.int)) ∧ 0 ≤ i ∧ c ≠ a
theorem Sto.to {H H' : Hp} {a c : Addr} (h : Sto H a c) (e1 : H' a = H a) (e2 : H' c = H c) : Sto H' a c := by
  obtain ⟨ns, i, b, t, s, h1, h2, h3, h4⟩ := h
  exact ⟨ns, i, b, t, s, e1.trans h1, e2.trans h2, h3, h4⟩
theorem Sto.same [Tabl] {H H' : Hp} {a c : Addr} (h : Sto H a c) (e : Same H H') : Sto H' a c := by
  obtain ⟨ns, i, b, t, s, h1, h2, h3, h4⟩ := h
  exact ⟨ns, i, b, t, s, e _ _ h1, e _ _ h2, h3, h4⟩
theorem Sto.new {H : Hp} {a c p : Addr} {o : HO} (h : Sto H a c) (e : H p = none) : Sto (upd H p o) a c := by
  obtain ⟨ns, i, b, t, s, h1, h2, h3, h4⟩ := h
  exact ⟨ns, i, b, t, s, by rw [upd_ne (ne_of_none h1 e)]; exact h1, by rw [upd_ne (ne_of_none h2 e)]; exact h2, h3, h4⟩
theorem Sto.ne {H : Hp} {a c p : Addr} (h : Sto H a c) (e : H p = none) : p ≠ a ∧ p ≠ c := by
  obtain ⟨ns, i, b, t, s, h1, h2, h3, h4⟩ := h
  exact ⟨fun z => (by rw [z, h1] at e; cases e), fun z => (by rw [z, h2] at e; cases e)⟩
theorem Sto.put {H : Hp} {a c p : Addr} {o : HO} (h : Sto H a c) (n : p ≠ a ∧ p ≠ c) : Sto (upd H p o) a c :=
  h.to (upd_ne (Ne.symm n.1)) (upd_ne (Ne.symm n.2))
theorem ints_at {ns : List Int} {i : Int} (h0 : 0 ≤ i) (h1 : i < ((ns.map V.int).length : Nat)) : ∃ n, atI (ns.map V.int) i = some (.int n) := by
  obtain ⟨j, rfl⟩ := Int.eq_ofNat_of_zero_le h0
  have hj : j < ns.length := by
    rw [List.length_map] at h1
    exact Int.ofNat_lt.mp h1
  exact ⟨ns[j], atI_nat (by rw [List.getElem?_map, List.getElem?_eq_getElem hj]; rfl)⟩
theorem ne1 {P : Prop} [Decidable P] (h : P) : decide P = true := decide_eq_true h
theorem ne0 {P : Prop} [Decidable P] (h : ¬ P) : decide P = false := decide_eq_false h
theorem iteC {c : Bool} {A B : Prop} (h : c = true) (a : A) : if c = true then A else B := by
  rw [if_pos h]
  exact a
theorem iteN {c : Bool} {A B : Prop} (h : c = false) (b : B) : if c = true then A else B := by
  rw [h]
  exact iteF b
/-- a row that is not come to -/
theorem ps_dead {X : Cx} {s : Stmt} : PS X s (fun _ _ _ => False) := ⟨fun _ _ _ _ _ _ h => h.elim⟩
end Lb

namespace L2
open PySem PySem.Spec PyProof.Rows
theorem pip_of {X : Cx} {op : Operator} {r : TIp} (h : OpR X (inplaceOp op) r) : PIp X op r := fun pins s σ H x y v u Q I r1 r2 q => h pins s σ H x y v u Q I r1 r2 q
/-! min, max of a list of texts -/
def rMinS (K : PySem.W.Frag) : List V → Hp → VK → Prop := fun vs H Q => ∃ (a : Addr) (x : Str) (xs : List Str), vs = [V.ref a] ∧ SqL K H a ((x :: xs).map V.str) ∧ Q (.str (PySem.W.minOf x xs)) H
def rMaxS (K : PySem.W.Frag) : List V → Hp → VK → Prop := fun vs H Q => ∃ (a : Addr) (x : Str) (xs : List Str), vs = [V.ref a] ∧ SqL K H a ((x :: xs).map V.str) ∧ Q (.str (PySem.W.maxOf x xs)) H
theorem cr_minS {X : Cx} (hc : X.calm = true) (hu : X.A.units + 64 < cLine) : CallR X (.builtin "min") (rMinS X.K) := by
  intro pins s σ H vs us Q I r h
  obtain ⟨a, x, xs, rfl, hs, q⟩ := h
  obtain ⟨its, rv, hl, _⟩ := I.list hs
  rw [Vals.ref1 r]
  have hd : PySem.W.Datum.depth Str ≤ 1 := by decide
  exact PySem.W.min_list_datum (x := x) (xs := xs) (I.ok.hd hc) hl.isList (PySem.W.HoldAll.of_strs rv.strs) (by omega) fun i v h' tk hi hv hk =>
    ⟨.str (PySem.W.minOf x xs), H, I.kept hk, PySem.W.str_of_holds hv, q⟩
theorem cr_maxS {X : Cx} (hc : X.calm = true) (hu : X.A.units + 64 < cLine) : CallR X (.builtin "max") (rMaxS X.K) := by
  intro pins s σ H vs us Q I r h
  obtain ⟨a, x, xs, rfl, hs, q⟩ := h
  obtain ⟨its, rv, hl, _⟩ := I.list hs
  rw [Vals.ref1 r]
  have hd : PySem.W.Datum.depth Str ≤ 1 := by decide
  exact PySem.W.max_list_datum (x := x) (xs := xs) (I.ok.hd hc) hl.isList (PySem.W.HoldAll.of_strs rv.strs) (by omega) fun i v h' tk hi hv hk =>
    ⟨.str (PySem.W.maxOf x xs), H, I.kept hk, PySem.W.str_of_holds hv, q⟩
/-! rules that name the written part: for the inside of a comprehension -/
theorem ix_listK {X : Cx} (K : PySem.W.Frag) (h : X.K = K) : IxR X (rIxL K) := by
  subst h
  exact ix_list
theorem ix_tupK {X : Cx} (K : PySem.W.Frag) (h : X.K = K) : IxR X (rIxT K) := by
  subst h
  exact ix_tup
theorem op_in_seqK {X : Cx} (K : PySem.W.Frag) (h : X.K = K) : OpR X (compareOp .In) (rIn K false) := by
  subst h
  exact op_in_seq
theorem op_notIn_seqK {X : Cx} (K : PySem.W.Frag) (h : X.K = K) : OpR X (compareOp .NotIn) (rIn K true) := by
  subst h
  exact op_notIn_seq
theorem call_len_seqK {X : Cx} (K : PySem.W.Frag) (h : X.K = K) : CallR X (.builtin "len") (fun xs H Q => ∃ p ys, xs = [.ref p] ∧ (SqL K H p ys ∨ SqT K H p ys) ∧ Q (.int ys.length) H) := by
  subst h
  exact call_len_seq
end L2

namespace Lb
open PySem PySem.Spec PyProof.Rows L2
/-- a def of the text, its code object at c -/
structure FunC (K : PySem.W.Frag) (x qual : Str) (st : Stmt) (f : Addr) (fd : FuncData) (c : Addr) : Prop where
  F : Fun K x qual st f fd
  code : fd.code = .ref c
theorem FunC.ok {P : Program} {w : World} {K : PySem.W.Frag} {mg : Str → Option Value} {base : Heap} {x qual : Str} {st : Stmt} {f c : Addr} {fd : FuncData} {N ps : List Str} {k : Nat} {sp : Sp} (F : FunC K x qual st f fd c) (S : FnScope N ps (defScope st)) (len : ∀ vs H Q E, sp vs H Q E → vs.length = ps.length)
    (body : ∀ (A : Around) (outer : List Env) (s : Shared) (H : Hp) (vs : List V) (Q : VK) (E : XK), Room k (A.deeper (envOfC qual (defScope st) s.heap.objs.size f (.ref c))) → sp vs H Q E → ∃ t, PSs (cxOf CX0 P w K mg base N qual (defScope st) f (.ref c) A outer s H E).nox (defBody st) t ∧ t { nx := fun _ H' => Q .non H', rt := Q } (start N vs) H) :
    FnOk P w K mg base CX0 (k + 1) f fd ps sp := by
  obtain ⟨⟨⟨_, _, _, _, _, _, cdv, _, _, e, l, cd⟩, _⟩, code⟩ := F
  rw [e] at code
  have ec : cdv = .ref c := code
  rw [e] at l ⊢
  rw [ec] at l cd ⊢
  exact fn_of l cd S len fun A outer s H vs Q E hr hs => let ⟨t, h, q⟩ := body A outer s H vs Q E hr hs; ⟨t, h.nox, q⟩
theorem FunC.kp {K : PySem.W.Frag} {x qual : Str} {st : Stmt} {f c : Addr} {fd : FuncData} (F : FunC K x qual st f fd c) : PySem.W.keepIn K (.ref f) = true := F.F.kp
end Lb

namespace GQ
open PySem PySem.Spec PyProof.Rows L2 GxR
open Lb (Tabl Good)
/-! ### all(.. for x in e), any(..) over a text e, where the test looks at names of the def or of the module
`Elt`: what the test is worth for the sign c in the generator's own frame; h1 is the heap behind e, and all of it but the table at P stands there -/
def Elt (X : Cx) (P : Addr) (h1 : Heap) (scope : Scope) (x : Str) (elt : Expr) (pb : Nat → Bool) : Prop :=
  ∀ (env : Env) (A' : Around) (E' : Value → Shared → Prop) (c : Nat) (t : Tok) (r : Shared) (m : Str → Option Value), env.scope = scope → env.cells = cloFrom X.env.cells scope.names [] → env.globals = X.env.globals → A'.handled = none →
    r.heap.Ns env.locals m → m x = some (.str ⟨#[c]⟩ t) → (∀ b u, b ≠ P → h1.get? b = some u → r.heap.get? b = some u) → wpAny (model X.prog X.w) A' (eval elt env) (fun y r' => y = .bool (pb c) ∧ Keeps r r') E' r
/-- the walk over the signs: the i-th answer -/
def Ans (pb : Nat → Bool) (a : Str) : Nat → Value → Prop := fun i y => ∃ cc, a.cps[i]? = some cc ∧ y = .bool (pb cc)
theorem ans_truth {prog : Program} {w : World} {A : Around} {pb : Nat → Bool} {a : Str} {n : Nat} (hn : n = a.cps.size) :
    TruthOf prog w A (fun j y => ∃ i, (List.range n)[j]? = some i ∧ Ans pb a i y) (trF pb a.cps.toList) := by
  intro j y sj Qj Ej hy hq
  obtain ⟨i, hij, cc, hcc, rfl⟩ := hy
  have hj : j < (List.range n).length := (List.getElem?_eq_some_iff.mp hij).1
  rw [List.getElem?_eq_getElem hj, List.getElem_range] at hij
  cases hij
  have ht : a.cps.toList[j]? = some cc := (Array.getElem?_toList ..).trans hcc
  have hq' : Qj (trF pb a.cps.toList j) sj := hq
  rw [trF_some ht] at hq'
  exact wpAny_truthy_bool hq'
section
variable {X : Cx} {pins : List (Addr × Obj)} {σ : L2.St} {H : Hp} {s : Shared}
variable [Tabl]
/-- the generator over the signs of a, ready to be walked in the state s5 -/
def GoesOver (X : Cx) (pins : List (Addr × Obj)) (σ : L2.St) (H1 : Hp) (a : Str) (pb : Nat → Bool) (g : Addr) (s5 : Shared) : Prop :=
  ∃ (fp wr : List Addr) (G : Array GenState → Array GenState → Prop) (F : Nat → Value → Prop) (St : Nat → Shared → Prop), WalksS X.prog X.w X.A.in1 g fp wr G a.cps.size F St ∧ St 0 s5 ∧ TruthOf X.prog X.w X.A.in1 F (trF pb a.cps.toList) ∧
    ∀ s', Moved wr G s5 s' → ∃ H2, Lb.Same H1 H2 ∧ Inv X pins σ H2 s'
theorem gen_txt {c P : Addr} {elt iter : Expr} {x : Str} {px gpos : Pos} {scope : Scope} {te : TE} {k : Nat} {Q' : Value → Shared → Prop} {R : Str → (Nat → Bool) → Hp → Prop} {Cn : L2.St → Hp → (Nat → Bool) → Prop}
    (hr : Room k X.A) (TB : LamX.TabB X.base X.mg c P) (hmem : (P, X.env.qual ++ "<genexpr>") ∈ Tabl.T) (hcode : X.env.code = .ref c) (S : GenS X.env scope x) (hi : PE X iter te)
    (hel : ∀ (σ : L2.St) (H1 : Hp) (s1 : Shared) (pb : Nat → Bool), Inv X pins σ H1 s1 → Good H1 → Cn σ H1 pb → Elt X P s1.heap scope x elt pb) (hs : ∀ v, genFold iter X.env v = pure v) (I : Inv X pins σ H s)
    (h : te σ H fun v H1 => ∃ (a : Str) (pb : Nat → Bool), v = .str a ∧ Good H1 ∧ Cn σ H1 pb ∧ R a pb H1)
    (hQ : ∀ a pb H1 g s5, R a pb H1 → GoesOver X pins σ H1 a pb g s5 → Q' (.ref g) s5) :
    wpAny (model X.prog X.w) X.A (eval (.GeneratorExp elt [⟨.Name x px, iter, [], 0⟩] scope gpos) X.env) Q' X.xe s := by
  have hd := hr.dp
  refine wpAny_GeneratorExp_walksQ hr.hd S.co (closure_ok S.free) S.cell S.dot S.loc S.kind (by omega) ?_ hs
  refine thn (hi.run pins s σ H _ I h) fun xv s1 hx1 => ?_
  obtain ⟨v, H1, I1, r1, a, pb, rfl, good, cn, rr⟩ := hx1
  obtain ⟨ps, tabP, tri, bears⟩ := good _ hmem
  obtain ⟨tk0, rfl⟩ := _root_.id r1
  have E1 := hel σ H1 s1 pb I1 good cn
  refine wpAny_pyIter_str fun io St W st0 => ?_
  -- the heap with the iterator: hp
  have oldP : s1.heap.get? P = some { cls := .none, data := .fields ps } := I1.hok P _ tabP
  have ltP : P < s1.heap.objs.size := Heap.lt_size oldP
  have nowP : (s1.heap.push io).get? P = some { cls := .none, data := .fields ps } := Heap.get?_push_of_some _ oldP
  have codeH : PySem.W.CodeHd (s1.heap.push io) c P := TB.code.keeps fun b u e => Heap.get?_push_of_some _ (I1.bk b u e)
  have nolim : (s1.heap.push io).NoLimit := I1.nolimit.push io
  have szp : (s1.heap.push io).objs.size = s1.heap.objs.size + 1 := Heap.size_push ..
  refine ⟨nolim, ?_⟩
  -- what is owed once the code object is there: h3, its table ps3
  have owed : ∀ (code : Value) (h3 : Heap) (tk : Nat) (ps3 : Array Value), Heap.ExtBut P (s1.heap.push io) h3 → (s1.heap.push io).objs.size ≤ h3.objs.size → h3.get? P = some { cls := .none, data := .fields ps3 } → (∀ (s' : Shared), (∀ b u, b ≠ P → s1.heap.get? b = some u → s'.heap.get? b = some u) → s'.heap.get? P = some { cls := .none, data := .fields ps3 } → (∀ b u, s1.heap.objs.size < b → b < h3.objs.size → h3.get? b = some u → s'.heap.get? b = some u) → AllBare s'.gens → s'.os = s1.os → ∃ H2, Lb.Same H1 H2 ∧ Inv X pins σ H2 s') →
      wpAny (model X.prog X.w) X.A (builtinsFor X.env.globals X.env.builtins) (fun bi s₄ =>
        ∃ Ia fp wr n₀ Pf St₀ pz F, Value.ref s1.heap.objs.size = .ref Ia ∧ (∀ A' : Around, A'.handled = none → Walks X.prog X.w A' Ia fp wr n₀ Pf St₀) ∧ St₀ 0 s₄.heap ∧ (∀ b ∈ fp, b < s₄.heap.objs.size) ∧ s₄.heap.NoLimit ∧ cStatics ∉ wr ∧
          (∀ href : Heap, (∀ b o, s₄.heap.get? b = some o → href.get? b = some o) →
            QuietGen X.prog X.w (genEnv scope (cloFrom X.env.cells scope.names []) s₄.heap.objs.size code bi X.env) x [] elt (List.range s₄.heap.objs.size) wr Pf pz F href) ∧
          (∀ ga h₅ tk gs, gs.bare = true → s₄.heap.objs.size < ga → h₅.objs.size = ga + 1 → (∀ b o, s₄.heap.get? b = some o → h₅.get? b = some o) →
            WalksS X.prog X.w X.A.in4 ga (ga :: s₄.heap.objs.size :: List.range s₄.heap.objs.size) (s₄.heap.objs.size :: wr) (GenOnlyQ s₄.gens.size) (passing pz n₀ 0).length
              (fun j y => ∃ i, (passing pz n₀ 0)[j]? = some i ∧ F i y) (GenAt X.prog X.w X.A.in4 ga s₄.gens.size s₄.heap.objs.size (List.range s₄.heap.objs.size) wr pz n₀ F) →
            GenAt X.prog X.w X.A.in4 ga s₄.gens.size s₄.heap.objs.size (List.range s₄.heap.objs.size) wr pz n₀ F 0 { s₄ with gens := s₄.gens.push gs, toks := tk, heap := h₅ } →
            Q' (.ref ga) { s₄ with gens := s₄.gens.push gs, toks := tk, heap := h₅ })) X.xe { s1 with heap := h3, toks := tk } := by
    intro code h3 tk ps3 ext3 sz3 at3 fin
    obtain ⟨bm, ob, b1, b2, b3, b4, b5, b6, b7, b8⟩ := TB.bm
    have stat : cStatics < s1.heap.objs.size ∧ cStatics ≠ P := by
      obtain ⟨_, hns, _⟩ := I1.nolimit
      refine ⟨hns.lt, fun e => ?_⟩
      obtain ⟨o', es, ep, ho, hdt, _⟩ := hns
      rw [e, oldP] at ho
      cases ho
      cases hdt
    have kept : ∀ b u, b ≠ P → s1.heap.get? b = some u → h3.get? b = some u := fun b u hb e => ext3 b u hb (Heap.get?_push_of_some _ e)
    have glob3 : h3.Ns X.env.globals X.mg := by
      rw [I1.ok.glob]
      exact ((I1.mod.glob.keeps I1.bk).push io).extBut ext3 TB.gP
    refine wpAny_builtinsFor (m := X.mg) glob3 b1 b2 (kept _ _ b4 (I1.bk _ _ b5)) b6 b7 b8 ?_
    have itlt : s1.heap.objs.size < h3.objs.size := by omega
    refine ⟨s1.heap.objs.size, [s1.heap.objs.size], [s1.heap.objs.size], a.cps.size, SignAt a, St, (fun _ => true), Ans pb a, rfl, W, ?_, fun b hb => ?_, nolim.extBut ext3 stat.2, fun z => ?_, fun href hold => ?_, ?_⟩
    · refine (W X.A hr.hd).frame _ _ _ st0 fun b hb u e => ext3 b u (fun z => ?_) e
      have eb := List.mem_singleton.mp hb
      exact Nat.ne_of_lt ltP (z.symm.trans eb)
    · rw [List.mem_singleton.mp hb]
      exact itlt
    · exact Nat.ne_of_lt stat.1 (List.mem_singleton.mp z)
    · constructor
      · intro A' E' i v r m hA hv hn hm hk
        rw [List.forIn_nil]
        exact wpAny_pure ⟨rfl, keeps_refl _⟩
      · intro A' E' i v r m hA hv hp hn hm hk
        obtain ⟨cc, u, hcc, rfl⟩ := hv
        refine wpAny_mono (E1 _ A' E' cc u r m rfl rfl rfl hA hn hm fun b u hb e => ?_) (fun y r' q => ⟨⟨cc, hcc, q.1⟩, q.2⟩) fun _ _ e => e
        have lb : b < s1.heap.objs.size := Heap.lt_size e
        exact hk b (List.mem_range.mpr (Nat.lt_trans lb itlt)) (fun z => Nat.ne_of_lt lb (List.mem_singleton.mp z)) u (hold b u (kept b u hb e))
    · intro g h5 tk5 gs bare5 lt5 sz5 keep5 W5 at5
      simp only [List.length_range, GxR.passing_true] at W5
      refine hQ a pb H1 g _ rr ⟨_, _, _, _, _, W5.in4_1, at5, ans_truth rfl, fun s' mv => ?_⟩
      have outside : ∀ b u, s1.heap.get? b = some u → b ∉ h3.objs.size :: [s1.heap.objs.size] := fun b u e hb => by
        have lb : b < s1.heap.objs.size := Heap.lt_size e
        rw [List.mem_cons, List.mem_singleton] at hb
        rcases hb with z | z
        · rw [z] at lb
          exact Nat.lt_irrefl _ (Nat.lt_trans itlt lb)
        · rw [z] at lb
          exact Nat.lt_irrefl _ lb
      exact fin s' (fun b u hb e => mv.heap b u (outside b u e) (keep5 b u (kept b u hb e))) (mv.heap P _ (outside P _ oldP) (keep5 P _ at3)) (fun b u l1 l2 e => mv.heap b u (fun hb => by
        rw [List.mem_cons, List.mem_singleton] at hb
        rcases hb with z | z
        · rw [z] at l2
          exact Nat.lt_irrefl _ l2
        · rw [z] at l1
          exact Nat.lt_irrefl _ l1) (keep5 b u e)) (AllBare.movedS (I1.bare.push bare5) mv) mv.os
  -- the table as it was
  have asIs : ∀ s' : Shared, (∀ b u, b ≠ P → s1.heap.get? b = some u → s'.heap.get? b = some u) → s'.heap.get? P = some { cls := .none, data := .fields ps } → AllBare s'.gens → s'.os = s1.os → ∃ H2, Lb.Same H1 H2 ∧ Inv X pins σ H2 s' := fun s' k1 k2 k3 k4 => by
    have J := inv_tab (more := #[]) (h' := s'.heap) (g' := s'.gens) (d' := s'.drawn) (t' := s'.toks) I1 tabP k1 (by rw [Array.append_empty]; exact k2) k3
    rw [sh_eta s1 s' k4, Array.append_empty] at J
    have e : upd H1 P (.tbl ps) = H1 := by
      funext b
      by_cases z : b = P
      · rw [z, upd_same]
        exact tabP.symm
      · exact upd_ne z
    rw [e] at J
    exact ⟨H1, .refl H1, J⟩
  cases hit : codeAmong gpos ps.toList with
  | some cv => exact wpAny_genexprCode_hit hcode (codeH.code nowP tri) hit (owed cv _ s1.toks ps (Heap.ExtBut.refl _ _) (Nat.le_refl _) nowP fun s' k1 k2 _ k3 k4 => asIs s' k1 k2 k3 k4)
  | none =>
    refine wpAny_genexprCodeX hcode (codeH.code nowP tri) (codeH.tab nowP) hit fun c' h' tk hx hge hlt hco' hrec htab' _ => ?_
    obtain ⟨c2, oc, vs, t, e2, hoc, hdc, hvc⟩ := hrec
    cases e2
    refine owed _ h' tk _ hx (Nat.le_trans hge (Nat.le_of_lt hlt)) htab'.2 fun s' k1 k2 k5 k3 k4 => ?_
    have hge0 : (s1.heap.push io).objs.size ≤ c' := hge
    rw [szp] at hge0
    have hge1 : s1.heap.objs.size < c' := hge0
    have nC : H1 c' = none := I1.hok.fresh (Nat.le_of_lt hge1)
    have J0 := LamX.inv_table (q := X.env.qual ++ "<genexpr>") (h' := s'.heap) (t' := s'.toks) I1 tabP k1 k2 (Nat.le_of_lt hge1) ⟨oc, vs, t, k5 _ _ hge1 hlt hoc, hdc, hvc⟩
    have atP : upd (upd H1 P (.tbl (ps ++ #[rawInt gpos.line, rawInt gpos.col, .ref c']))) c' (LamX.CodeO c' (X.env.qual ++ "<genexpr>")) P = some (.tbl (ps ++ #[rawInt gpos.line, rawInt gpos.col, .ref c'])) := by
      rw [upd_ne (ne_of_none tabP nC), upd_same]
    have J := inv_tab (more := #[]) (h' := s'.heap) (g' := s'.gens) (d' := s'.drawn) (t' := s'.toks) J0 atP (fun b u _ e => e) (by rw [Array.append_empty]; exact k2) k3
    have es : ({ s1 with heap := s'.heap, gens := s'.gens, drawn := s'.drawn, toks := s'.toks } : Shared) = s' := sh_eta s1 s' k4
    have J : Inv X pins σ _ ({ s1 with heap := s'.heap, gens := s'.gens, drawn := s'.drawn, toks := s'.toks } : Shared) := J
    rw [es, Array.append_empty] at J
    have eP : ∀ (G : Hp) (o : HO), G P = some o → upd G P o = G := fun G o hG => by
      funext b
      by_cases z : b = P
      · rw [z, upd_same]
        exact hG.symm
      · exact upd_ne z
    rw [eP _ _ atP] at J
    refine ⟨_, Lb.same_code tabP tri bears nC hmem, J⟩
/-- behind it the def's table may have grown -/
def tAll (Cn : L2.St → Hp → (Nat → Bool) → Prop) (te : TE) : TE := fun σ H Q => te σ H fun v H1 => ∃ (a : Str) (pb : Nat → Bool), v = .str a ∧ Good H1 ∧ Cn σ H1 pb ∧ ∀ H2, Lb.Same H1 H2 → Q (.bl (a.cps.toList.all pb)) H2
theorem pe_all {c P : Addr} {elt iter : Expr} {x : Str} {px p pos gpos : Pos} {scope : Scope} {Cn : L2.St → Hp → (Nat → Bool) → Prop} {te : TE} {k : Nat}
    (hr : Room k X.A) (hg : Gl X "all") (hm : X.mg "all" = none) (TB : LamX.TabB X.base X.mg c P) (hmem : (P, X.env.qual ++ "<genexpr>") ∈ Tabl.T) (hcode : X.env.code = .ref c) (S : GenS X.env scope x) (hi : PE X iter te)
    (hel : ∀ (pins : List (Addr × Obj)) (σ : L2.St) (H1 : Hp) (s1 : Shared) (pb : Nat → Bool), Inv X pins σ H1 s1 → Good H1 → Cn σ H1 pb → Elt X P s1.heap scope x elt pb) (hs : ∀ v, genFold iter X.env v = pure v := by intro _; rfl)
    (hb : bootBuiltins "all" = some (.builtin "all") := by decide +kernel)
    (he : starEach [.GeneratorExp elt [⟨.Name x px, iter, [], 0⟩] scope gpos] X.env = (false, eval (.GeneratorExp elt [⟨.Name x px, iter, [], 0⟩] scope gpos) X.env) :: starEach [] X.env := by rfl) :
    PE X (.Call (.Name "all" p) [.GeneratorExp elt [⟨.Name x px, iter, [], 0⟩] scope gpos] [] pos) (tAll Cn te) := by
  refine ⟨fun pins s σ H Q I h => wpAny_Call_Name_kw (ld_blt I hg hm hb (PyProof.Rows.callWith_builtin1 ?_ he (by rfl)))⟩
  rw [he]
  refine Calls.spliced_cons (gen_txt (R := fun a pb H1 => ∀ H2, Lb.Same H1 H2 → Q (.bl (a.cps.toList.all pb)) H2) hr TB hmem hcode S hi (hel pins) hs I h fun a pb H1 g s5 hR ready => ?_)
  obtain ⟨fp, wr, G, F, St, W, st0, tr, fin⟩ := ready
  refine Calls.spliced_nil (call_all_walkS (W.self 0 _ _ _ st0 ⟨g, fp, wr, G, _, F, St, _, rfl, W, st0, tr, fun s' mv => ?_⟩))
  obtain ⟨H2, hT, J⟩ := fin s' mv
  refine ⟨.bl _, H2, J, rfl, ?_⟩
  rw [all_signs a pb]
  exact hR H2 hT
/-- x in y, y a text that a name of the def holds -/
def CnVar (i : Nat) : L2.St → Hp → (Nat → Bool) → Prop := fun σ _ pb => ∃ z : Str, σ[i]? = some (some (.str z)) ∧ pb = fun c => decide (c ∈ z.cps.toList)
/-- x in y, y a text of the module -/
def CnGl (z : Str) : L2.St → Hp → (Nat → Bool) → Prop := fun _ _ pb => pb = fun c => decide (c ∈ z.cps.toList)
theorem elt_var {P : Addr} {scope : Scope} {x y : Str} {i : Nat} {p1 p2 p3 : Pos} {pb : Nat → Bool} (S : GenS X.env scope x) (hy : scope.names.lookup y = some .free) (hm : (y, NameKind.free) ∈ scope.names) (hN : X.N[i]? = some y) (hv : X.env.scope.names.lookup y = some .cell)
    (I : Inv X pins σ H s) (tb : TabG H P) (cn : CnVar i σ H pb) (hd : (x == ("__debug__" : Str)) = false := by decide) (hd' : (y == ("__debug__" : Str)) = false := by decide) (hcd : (y == ("__classdict__" : Str)) = false := by decide) :
    Elt X P s.heap scope x (.Compare (.Name x p1) [.In] [.Name y p2] p3) pb := by
  obtain ⟨z, hz, rfl⟩ := cn
  obtain ⟨m0, hn0, look⟩ := I.loc
  obtain ⟨u, ru, lk⟩ := look i y _ hN hz (.inr (.inl hv))
  obtain ⟨tz, rfl⟩ := ru
  have cellAt : ∃ c0, X.env.cells.lookup y = some c0 ∧ s.heap.IsCell c0 (some (.str z tz)) := by
    rcases lk with ⟨hk, _⟩ | ⟨_, r⟩
    · have hk' : X.env.scope.names.lookup y = some .local := hk
      rw [hv] at hk'
      cases hk'
    · exact r
  obtain ⟨c0, hc0, o0, ho0, hd0⟩ := cellAt
  intro env A' E' c t r m hs hcl hg hA hn hx keep
  have kd : env.scope.kind = .function := by rw [hs]; exact S.kind
  have notP : c0 ≠ P := fun e => by
    obtain ⟨ps, hP, _⟩ := tb
    have hP' : s.heap.get? P = some { cls := .none, data := .fields ps } := I.hok P _ hP
    rw [e, hP'] at ho0
    cases ho0
    cases hd0
  have lx : env.kindOf x = some .local := by show env.scope.names.lookup x = _; rw [hs]; exact S.loc
  have ly : env.kindOf y = some .free := by show env.scope.names.lookup y = _; rw [hs]; exact hy
  have clo : env.cells.lookup y = some c0 := by rw [hcl]; exact NdefX.clo_has S.free hm hc0
  refine wpAny_Compare1 (wpAny_Name (wpAny_loadName_local kd lx hn hx ?_) hd)
  refine wpAny_Name (wpAny_loadName_free kd ly clo ⟨o0, keep c0 o0 notP ho0, hd0⟩ ?_ hcd) hd'
  exact PyProof.Rows.in_str ⟨congrArg Value.bool (PySem.StrLaws.found_one z c), keeps_refl r⟩
theorem elt_glob {P : Addr} {scope : Scope} {x y : Str} {z : Str} {tz : Tok} {p1 p2 p3 : Pos} {pb : Nat → Bool} (S : GenS X.env scope x) (hy : scope.names.lookup y = some .globalImplicit) (hm : X.mg y = some (.str z tz)) (gP : mainGlobals ≠ P)
    (I : Inv X pins σ H s) (cn : CnGl z σ H pb) (hd : (x == ("__debug__" : Str)) = false := by decide) (hd' : (y == ("__debug__" : Str)) = false := by decide) :
    Elt X P s.heap scope x (.Compare (.Name x p1) [.In] [.Name y p2] p3) pb := by
  cases cn
  intro env A' E' c t r m hs hcl hg hA hn hx keep
  have kd : env.scope.kind = .function := by rw [hs]; exact S.kind
  have lx : env.kindOf x = some .local := by show env.scope.names.lookup x = _; rw [hs]; exact S.loc
  have ly : env.kindOf y = some .globalImplicit := by show env.scope.names.lookup y = _; rw [hs]; exact hy
  have gl : r.heap.Ns env.globals X.mg := by
    rw [hg, I.ok.glob]
    exact (I.mod.glob.keeps I.bk).at fun o e => keep _ o gP e
  refine wpAny_Compare1 (wpAny_Name (wpAny_loadName_local kd lx hn hx ?_) hd)
  refine Calls.Name_function_global kd ly (Calls.loadGlobal_global gl hm ?_) hd'
  exact PyProof.Rows.in_str ⟨congrArg Value.bool (PySem.StrLaws.found_one z c), keeps_refl r⟩
/-! ### the generator's names, told by the scopes alone -/
structure GenB (sc scope : Scope) (x : Str) : Prop where
  kind : scope.kind = .function
  co : scope.isCoroutine = false
  cell : ∀ y ∈ scope.names, y.2 ≠ .cell
  dot : scope.names.lookup (".0" : Str) = some NameKind.local
  loc : scope.names.lookup x = some .local
  free : ∀ y ∈ scope.names, y.2 = .free → sc.names.lookup y.1 = some .cell ∨ sc.names.lookup y.1 = some .free
def genBB (sc scope : Scope) (x : Str) : Bool :=
  decide (scope.kind = .function) && !scope.isCoroutine && decide (scope.names.lookup (".0" : Str) = some NameKind.local) && decide (scope.names.lookup x = some .local) && scope.names.all fun y => !decide (y.2 = .cell) && (!decide (y.2 = .free) || decide (sc.names.lookup y.1 = some .cell) || decide (sc.names.lookup y.1 = some .free))
theorem genB_by {sc scope : Scope} {x : Str} (h : genBB sc scope x = true) : GenB sc scope x := by
  unfold genBB at h
  simp only [Bool.and_eq_true, Bool.or_eq_true, Bool.not_eq_true', decide_eq_true_eq, decide_eq_false_iff_not, List.all_eq_true] at h
  obtain ⟨⟨⟨⟨a1, a2⟩, a3⟩, a4⟩, a5⟩ := h
  refine ⟨a1, a2, fun y m => (a5 y m).1, a3, a4, fun y m e => ?_⟩
  rcases (a5 y m).2 with (z | z) | z
  · exact absurd e z
  · exact .inl z
  · exact .inr z
theorem GenB.S {scope : Scope} {x : Str} (B : GenB X.env.scope scope x) (ok : X.Ok) : GenS X.env scope x := ⟨B.kind, B.co, B.cell, B.dot, B.loc, fun y m e => ok.has _ (B.free y m e)⟩
theorem pe_weak {e : Expr} {te : TE} (h : PE X e te) : PE X e (fun σ H Q => ∃ R : VK, te σ H R ∧ ∀ v H1, R v H1 → Q v H1) :=
  ⟨fun pins s σ H Q I ⟨R, a, b⟩ => wpAny_mono (h.run pins s σ H R I a) (fun u s1 ⟨v, H1, I1, r, q⟩ => ⟨v, H1, I1, r, b v H1 q⟩) fun _ _ z => z⟩
/-- all(x in y for x in e), y a text of the module -/
def tAllG (z : Str) (te : TE) : TE := fun σ H Q => te σ H fun v H1 => ∃ a : Str, v = .str a ∧ Good H1 ∧ ∀ H2, Lb.Same H1 H2 → Q (.bl (a.cps.toList.all fun c => decide (c ∈ z.cps.toList))) H2
/-- all(x in y for x in e), y a text in the i-th slot -/
def tAllV (i : Nat) (te : TE) : TE := fun σ H Q => te σ H fun v H1 => ∃ a z : Str, v = .str a ∧ σ[i]? = some (some (.str z)) ∧ Good H1 ∧ ∀ H2, Lb.Same H1 H2 → Q (.bl (a.cps.toList.all fun c => decide (c ∈ z.cps.toList))) H2
theorem pe_allG {c P : Addr} {iter : Expr} {x y : Str} {px p pos gpos p1 p2 p3 : Pos} {scope : Scope} {te : TE} {k : Nat} {z : Str} {tz : Tok}
    (hr : Room k X.A) (hm : X.mg "all" = none) (hmy : X.mg y = some (.str z tz)) (TB : LamX.TabB X.base X.mg c P) (hmem : (P, X.env.qual ++ "<genexpr>") ∈ Tabl.T) (hcode : X.env.code = .ref c) (B : GenB X.env.scope scope x) (hi : PE X iter te)
    (hg : Gl X "all" := by rfl) (hy : scope.names.lookup y = some .globalImplicit := by rfl) (hs : ∀ v, genFold iter X.env v = pure v := by intro _; rfl) (hd : (x == ("__debug__" : Str)) = false := by decide) (hd' : (y == ("__debug__" : Str)) = false := by decide)
    (he : starEach [.GeneratorExp (.Compare (.Name x p1) [.In] [.Name y p2] p3) [⟨.Name x px, iter, [], 0⟩] scope gpos] X.env = (false, eval (.GeneratorExp (.Compare (.Name x p1) [.In] [.Name y p2] p3) [⟨.Name x px, iter, [], 0⟩] scope gpos) X.env) :: starEach [] X.env := by rfl) :
    PE X (.Call (.Name "all" p) [.GeneratorExp (.Compare (.Name x p1) [.In] [.Name y p2] p3) [⟨.Name x px, iter, [], 0⟩] scope gpos] [] pos) (tAllG z te) := by
  refine ⟨fun pins s σ H Q I h => ?_⟩
  have S := B.S I.ok
  refine (pe_all (Cn := CnGl z) hr hg hm TB hmem hcode S (pe_weak hi) (fun pins σ H1 s1 pb I1 _ cn => elt_glob S hy hmy TB.gP I1 cn hd hd') hs (he := he)).run pins s σ H Q I ⟨_, h, fun v H1 q => ?_⟩
  obtain ⟨a, e1, e2, e3⟩ := q
  exact ⟨a, _, e1, e2, rfl, e3⟩
theorem pe_allV {c P : Addr} {iter : Expr} {x y : Str} {i : Nat} {px p pos gpos p1 p2 p3 : Pos} {scope : Scope} {te : TE} {k : Nat}
    (hr : Room k X.A) (hm : X.mg "all" = none) (hN : X.N[i]? = some y) (TB : LamX.TabB X.base X.mg c P) (hmem : (P, X.env.qual ++ "<genexpr>") ∈ Tabl.T) (hcode : X.env.code = .ref c) (B : GenB X.env.scope scope x) (hi : PE X iter te)
    (hv : X.env.scope.names.lookup y = some .cell := by rfl) (hg : Gl X "all" := by rfl) (hy : scope.names.lookup y = some .free := by rfl) (hmm : (y, NameKind.free) ∈ scope.names := by exact PySem.mem_of_lookup rfl) (hs : ∀ v, genFold iter X.env v = pure v := by intro _; rfl) (hd : (x == ("__debug__" : Str)) = false := by decide) (hd' : (y == ("__debug__" : Str)) = false := by decide) (hcd : (y == ("__classdict__" : Str)) = false := by decide)
    (he : starEach [.GeneratorExp (.Compare (.Name x p1) [.In] [.Name y p2] p3) [⟨.Name x px, iter, [], 0⟩] scope gpos] X.env = (false, eval (.GeneratorExp (.Compare (.Name x p1) [.In] [.Name y p2] p3) [⟨.Name x px, iter, [], 0⟩] scope gpos) X.env) :: starEach [] X.env := by rfl) :
    PE X (.Call (.Name "all" p) [.GeneratorExp (.Compare (.Name x p1) [.In] [.Name y p2] p3) [⟨.Name x px, iter, [], 0⟩] scope gpos] [] pos) (tAllV i te) := by
  refine ⟨fun pins s σ H Q I h => ?_⟩
  have S := B.S I.ok
  refine (pe_all (Cn := CnVar i) hr hg hm TB hmem hcode S (pe_weak hi) (fun pins σ H1 s1 pb I1 g cn => elt_var S hy hmm hN hv I1 (let ⟨ps, h1, h2, _⟩ := g _ hmem; ⟨ps, h1, h2⟩) cn hd hd' hcd) hs (he := he)).run pins s σ H Q I ⟨_, h, fun v H1 q => ?_⟩
  obtain ⟨a, z, e1, e0, e2, e3⟩ := q
  exact ⟨a, _, e1, e2, ⟨z, e0, rfl⟩, e3⟩
end
end GQ

namespace Lb
open PySem PySem.Spec PyProof.Rows L2
/-! ### the text's own errors -/
/-- a class of errors -/
structure ErrT (K : PySem.W.Frag) (mg : Str → Option Value) (x : Str) (C : Addr) : Prop where
  g : mg x = some (.ref C)
  o : OexC K C
  f : XfC K C
  i : ExcC K C
/-! what class is one of what class: from the classes' own rows -/
theorem cls_bit {K : PySem.W.Frag} {C : Addr} (h1 : PySem.W.isClsIn K C = true) (h2 : PySem.W.typeIn K (.ref C) = some (.type "type")) : ((PySem.W.clsIn K C).isSome && PySem.W.typeIn K (.ref C) == some (.type "type")) = true := by
  have h1' : (PySem.W.clsIn K C).isSome = true := h1
  rw [h1', h2] <;> rfl
theorem kitC {K : PySem.W.Frag} {t : Value} {C : Addr} {b : Bool} (h1 : PySem.W.isClsIn K C = true) (h2 : PySem.W.typeIn K (.ref C) = some (.type "type")) (h3 : PySem.W.subIn K t (.ref C) = some b) : PySem.W.kitCls K t (.ref C) = some b := by
  show (if ((PySem.W.clsIn K C).isSome && PySem.W.typeIn K (.ref C) == some (.type "type")) = true then PySem.W.subIn K t (.ref C) else none) = some b
  rw [if_pos (cls_bit h1 h2)]
  exact h3
theorem kitY {K : PySem.W.Frag} {t : Value} {C : Addr} (h1 : PySem.W.isClsIn K C = true) (h2 : PySem.W.typeIn K (.ref C) = some (.type "type")) (h3 : PySem.W.subIn K t (.ref C) = some true) : PySem.W.kitOne K t (.ref C) = some true := by
  unfold PySem.W.kitOne
  split
  · rfl
  · exact kitC h1 h2 h3
theorem kitN {K : PySem.W.Frag} {D C : Addr} (h1 : PySem.W.isClsIn K C = true) (h2 : PySem.W.typeIn K (.ref C) = some (.type "type")) (h3 : PySem.W.subIn K (.ref D) (.ref C) = some false) (h4 : PySem.W.subIn K (.ref C) (.ref C) = some true) :
    PySem.W.kitOne K (.ref D) (.ref C) = some false := by
  unfold PySem.W.kitOne
  split
  · rename_i e
    have e' := beq_iff_eq.mp e
    rw [e', h4] at h3
    cases h3
  · exact kitC h1 h2 h3
theorem kitB {K : PySem.W.Frag} {D : Addr} {T : String} {b : Bool} (hm : PySem.W.kitMeta T = true) (h : PySem.W.subIn K (.ref D) (.type T) = some b) : PySem.W.kitOne K (.ref D) (.type T) = some b := by
  unfold PySem.W.kitOne
  split
  · rename_i e
    cases beq_iff_eq.mp e
  · show (if PySem.W.kitMeta T = true then PySem.W.subIn K (.ref D) (.type T) else none) = some b
    rw [if_pos hm]
    exact h
theorem exmR {K : PySem.W.Frag} {D C : Addr} {b : Bool} (h0 : PySem.W.subIn K (.ref C) (.type "BaseException") = some true) (h1 : PySem.W.isClsIn K C = true) (h2 : PySem.W.typeIn K (.ref C) = some (.type "type")) (h3 : PySem.W.subIn K (.ref D) (.ref C) = some b) :
    PySem.W.exmOne K (.ref D) (.ref C) = some b := by
  have e1 : (PySem.W.subIn K (.ref C) (.type "BaseException") == some true) = true := by rw [h0] <;> rfl
  show (if (PySem.W.subIn K (.ref C) (.type "BaseException") == some true) = true then PySem.W.kitCls K (.ref D) (.ref C) else none) = some b
  rw [if_pos e1]
  exact kitC h1 h2 h3
/-- the j-th row of a class -/
def inCls (s : Stmt) (j : Nat) : Stmt := match s with
  | .ClassDef _ _ _ b _ _ _ _ _ _ _ => b.getD j (.Pass ⟨0, 0, 0, 0⟩)
  | _ => .Pass ⟨0, 0, 0, 0⟩
/-- isinstance(e, c), e the error that the suite holds, whatever its class -/
def rIsD (K : PySem.W.Frag) (a : Addr) (cls : Value) (d : Option Addr) : List V → Hp → VK → Prop := fun xs H Q =>
  ∃ (D : Addr) (c : V) (cv : Value) (b : Bool), cls = .ref D ∧ ExcC K D ∧ xs = [.ref a, c] ∧ (∀ u, RelV c u → u = cv) ∧ (∀ dd, d = some dd → ∃ fs, H dd = some (.xd fs)) ∧ PySem.W.kitOne K (.ref D) cv = some b ∧ Q (.bl b) H
theorem call_isD {X : Cx} {a : Addr} {cls : Value} {d : Option Addr} {oe : Obj} {pn : List (Addr × Obj)} (hz : Zc cls d oe) (hf : ∃ vs, oe.data = .fields vs) : CallR (X.suite a ((a, oe) :: pn)) (.builtin "isinstance") (rIsD X.K a cls d) := by
  intro pins s σ H xs us Q I r h
  obtain ⟨D, c, cv, b, rfl, C, rfl, same, dict, e, q⟩ := h
  obtain ⟨u1, u2, rfl, r1, r2⟩ := vals2 r
  cases r1
  cases same _ r2
  obtain ⟨at_, _⟩ := I.pin (a, oe) (List.mem_append_left _ List.mem_cons_self)
  obtain ⟨vs, data⟩ := hf
  obtain ⟨od, J⟩ : ∃ od, PySem.W.InstAt s.heap a oe D od := by
    have no : PySem.W.notCls oe = true := by
      unfold PySem.W.notCls
      rw [data] <;> rfl
    cases d with
    | none => exact ⟨none, at_, hz.1, no, by rw [hz.2]; trivial⟩
    | some dd =>
      obtain ⟨fs, hd⟩ := dict dd rfl
      obtain ⟨mA, ns, _⟩ := (show ObjOk X.prog X.w H s.heap dd (.xd fs) from I.hok dd _ hd)
      obtain ⟨od, ho, _⟩ := lookIn_ns ns
      exact ⟨some od, at_, hz.1, no, by rw [hz.2]; exact ho⟩
  have some_ : (PySem.W.clsIn X.K D).isSome = true := by
    obtain ⟨cd, hc, _⟩ := PySem.W.any_some C.hd
    rw [hc]
    rfl
  exact PySem.W.kia_one (PySem.W.kitx_exc some_ C.hg C.hk C.hs C.ha C.hn C.ht C.hm) I.kIn J e (fun z => nomatch z) fun tk => ⟨.bl b, H, I.kept (t' := tk) fun _ _ z => z, rfl, q⟩
/-! ### a class with an own __init__(self, f): self.f = f -/
def sp_init1 (K : PySem.W.Frag) (f : Str) : Sp := fun vs H Q _ => ∃ (a C : Addr) (v : V), vs = [.ref a, v] ∧ OexC K C ∧ PySem.W.findIn K (.ref C) f = some none ∧ H a = some (exo a C none) ∧
  ∀ dx, H dx = none → dx ≠ a → Q .non (upd (upd H dx (exd dx [(f, v)])) a (exo a C (some dx)))
theorem pa_weak {X : Cx} {es : List Expr} {t : TA} (h : PA X es t) : PA X es (fun σ H Q => ∃ R : List V → Hp → Prop, t σ H R ∧ ∀ vs H1, R vs H1 → Q vs H1) :=
  ⟨fun pos pins s σ H Q I ⟨R, a, b⟩ => wpAny_mono (h.run pos pins s σ H R I a) (fun u s1 ⟨v, H1, I1, r, q⟩ => ⟨v, H1, I1, r, b v H1 q⟩) fun _ _ z => z⟩
/-- C(e): a new error, its field f -/
def tErr1 (C : Addr) (f : Str) (ta : TA) : L2.St → Hp → XK → Prop := fun σ H Q => ta σ H fun vs H1 => ∃ v, vs = [v] ∧ ∀ d, H1 d = none → Q (.ref C) (some d) (upd H1 d (.xd [(f, v)]))
theorem pmk_err1 {X : Cx} {CX : CXT} {e : Expr} {ta : TA} {x f : Str} {C fI : Addr} {k : Nat} {fd : FuncData} {ps : List Str} {p pos : Pos} (E : ErrT X.K X.mg x C) (iC : PySem.W.findIn X.K (.ref C) "__init__" = some (some (.ref fI))) (tI : PySem.W.typeIn X.K (.ref fI) = some (.type "function"))
    (hno : PySem.W.findIn X.K (.ref C) f = some none) (F1 : FnOk X.prog X.w X.K X.mg X.base CX k fI fd ps (sp_init1 X.K f)) (hr : Room (k + 1) X.A) (hb : Binds X.K fd ps []) (hx : Passes CX X (fun _ _ _ => False)) (ha : PA X [e] ta) (hg : Gl X x := by rfl)
    (hdb : (x == ("__debug__" : Str)) = false := by decide) (he : starEach [e] X.env = (false, eval e X.env) :: starEach [] X.env := by rfl) (hpl : (backTo pos (starEach [] X.env)).any (·.1) = false := by rfl) :
    PMk X (.Call (.Name x p) [e] [] pos) (tErr1 C f ta) := by
  intro pins s σ H Q I h
  refine pmk_oex (dvs := []) E.o iC tI F1 hr hb .nil hx hg E.g (pa_weak ha) hdb he hpl pins s σ H Q I ⟨_, h, fun vs H1 z => ?_⟩
  obtain ⟨v, rfl, q⟩ := z
  refine ⟨by show 1 ≤ 1000; decide, fun a na => ⟨a, C, v, rfl, E.o, hno, upd_same, fun dx nd ne => ?_⟩⟩
  have nd1 : H1 dx = none := by
    rw [upd_ne ne] at nd
    exact nd
  refine ⟨rfl, dx, [(f, v)], upd_same, by rw [upd_ne ne, upd_same], nd1, ?_⟩
  have e : upd (del (upd (upd (upd H1 a (exo a C none)) dx (exd dx [(f, v)])) a (exo a C (some dx))) a) dx (.xd [(f, v)]) = upd H1 dx (.xd [(f, v)]) := by
    funext b
    by_cases b1 : b = dx
    · rw [b1, upd_same, upd_same]
    · rw [upd_ne b1, upd_ne b1]
      by_cases b2 : b = a
      · rw [b2, del_same, na]
      · rw [del_ne b2, upd_ne b2, upd_ne b1, upd_ne b2]
  rw [e]
  exact q dx nd1
/-- __init__(self, f): self.f = f -/
theorem ok_init1 {P : Program} {w : World} {K : PySem.W.Frag} {mg : Str → Option Value} {base : Heap} {x qual f : Str} {st : Stmt} {fI : Addr} {fd : FuncData} {p0 p1 p2 p3 p4 : Pos} {k : Nat} (F : Fun K x qual st fI fd) (S : FnScope ["self", f] ["self", f] (defScope st)) (hf : f ≠ "self")
    (body : defBody st = [.Assign [.Attribute (.Name "self" p0) f p1] (.Name f p2) p3]) (v0 : Vis (defScope st) "self" := by exact Or.inl rfl) (v1 : Vis (defScope st) f := by exact Or.inl rfl) (d1 : (f == ("__debug__" : Str)) = false := by decide) (d2 : (f == ("__classdict__" : Str)) = false := by decide) :
    FnOk P w K mg base CX0 (k + 1) fI fd ["self", f] (sp_init1 K f) := by
  refine F.ok S (fun vs H Q E h => ?_) (fun cdv A outer s H vs Q E hr h => ?_)
  · obtain ⟨a, C, v, rfl, _⟩ := h
    rfl
  · obtain ⟨a, C, v, rfl, T, no, e, q⟩ := h
    rw [body]
    exact ⟨_, pss_one (ps_ost (pv 0 rfl v0) (pv 1 rfl v1 d1 d2)), v, rfl, .ref a, rfl, a, C, rfl, T, no, .inl ⟨e, fun dx n ne => q dx n ne⟩⟩
end Lb


namespace Lb
open PySem PySem.Spec PyProof.Rows L2
/-! ### z.index(c), c one sign -/
theorem occ_at (s sub : Str) (hi limit : Nat) : ∀ (l : List Nat) (st : Array Nat × Nat), (∀ j ∈ st.fst.toList, j + sub.length ≤ hi ∧ Builtin.Str.subAt s sub j = true) → ∀ j ∈ (forIn l st (StrLaws.occBody s sub hi limit)).run.fst.toList, j + sub.length ≤ hi ∧ Builtin.Str.subAt s sub j = true
  | [], _, h => h
  | a :: l, st, h => by
    rw [List.forIn_cons]
    unfold StrLaws.occBody
    split
    · rename_i hc
      refine occ_at s sub hi limit l _ fun j hj => ?_
      rw [Array.toList_push] at hj
      rcases List.mem_append.mp hj with m | m
      · exact h j m
      · rw [List.mem_singleton.mp m]
        exact ⟨hc.1.2, hc.2⟩
    · exact occ_at s sub hi limit l _ h
theorem index_sign {z : Str} {c k : Nat} (h : Txt.index0 z ⟨#[c]⟩ = some k) : (cs z)[k]? = some c := by
  unfold Txt.index0 at h
  have m := List.mem_of_mem_head? (by rw [h]; rfl : k ∈ (Builtin.Str.occurrences z ⟨#[c]⟩ 0 z.length 1).head?)
  rw [StrLaws.occ_eq] at m
  exact (StrLaws.subAt_one z c k).mp (occ_at z ⟨#[c]⟩ _ 1 _ _ (fun j hj => absurd hj (by simp)) k m)
theorem index_none {z : Str} {c : Nat} (h : Txt.index0 z ⟨#[c]⟩ = none) : c ∉ cs z := fun m => by
  unfold Txt.index0 at h
  have f := StrLaws.found_one z c
  rw [decide_eq_true (show c ∈ z.cps.toList from m), List.head?_eq_none_iff.mp h] at f
  cases f
theorem for_str {x : Str} {g : TG} {tb : TS} {D : Ends} {σ : L2.St} {H : Hp} (Pv : Nat → L2.St → Hp → Prop) (h0 : Pv 0 σ H) (hs : ∀ (i c : Nat) (σ : L2.St) (H : Hp), (cs x)[i]? = some c → Pv i σ H → g (.str ⟨#[c]⟩) σ H fun σ2 H2 => tb { D with nx := Pv (i + 1), ct := Pv (i + 1), bk := D.nx } σ2 H2)
    (hd : ∀ σ H, Pv (cs x).length σ H → D.nx σ H) : ∃ W : Nat → Nat → L2.St → Hp → Prop, (∃ m, W 0 m σ H) ∧ ∀ i m σ H, W i m σ H → ((Its x).stop i H ∧ D.nx σ H) ∨
      ((Its x).go i H ∧ ∃ N : L2.St → Hp → Prop, (∀ σ' H', N σ' H' → ∃ m', m' < m ∧ W (i + 1) m' σ' H') ∧ ∀ v H', (Its x).yld i H v H' → g v σ H' fun σ2 H2 => tb { D with nx := N, ct := N, bk := D.nx } σ2 H2) := by
  have e : (cs x).length = x.cps.size := Array.length_toList
  rw [e] at hd
  refine for_it walk_str Pv h0 (fun _ _ _ _ _ => True.intro) (fun i v σ H H' _ p y => ?_) hd
  obtain ⟨rfl, c, hc, rfl⟩ := y
  exact hs i c σ _ ((Array.getElem?_toList ..).trans hc) p
/-! ### the number of a word: the letters' places, counted from 1, in the base of the letters -/
def pl (z : Str) (c : Nat) : Nat := (cs z).idxOf c
theorem idx_at : ∀ {l : List Nat} {j c : Nat}, l.Nodup → l[j]? = some c → l.idxOf c = j
  | [], j, c, _, h => by simp at h
  | x :: l, 0, c, _, h => by
    cases h
    simp
  | x :: l, j + 1, c, nd, h => by
    obtain ⟨n1, n2⟩ := List.nodup_cons.mp nd
    have h' : l[j]? = some c := h
    have ne : x ≠ c := fun e => n1 (e ▸ List.mem_of_getElem? h')
    rw [List.idxOf_cons, idx_at n2 h', beq_eq_false_iff_ne.mpr ne]
    rfl
theorem pl_at {z : Str} {j c : Nat} (nd : (cs z).Nodup) (h : (cs z)[j]? = some c) : pl z c = j := idx_at nd h
theorem pl_lt {z : Str} {c : Nat} (h : c ∈ cs z) : pl z c < (cs z).length := List.idxOf_lt_length_of_mem h
def num (z : Str) (l : List Nat) : Nat := l.foldl (fun i c => i * (cs z).length + pl z c + 1) 0
theorem num_snoc (z : Str) (l : List Nat) (c : Nat) : num z (l ++ [c]) = num z l * (cs z).length + pl z c + 1 := by
  unfold num
  rw [List.foldl_append]
  rfl
theorem num_lt {z : Str} (h4 : (cs z).length ≤ 4) : ∀ (n : Nat) (l : List Nat), l.length = n → (∀ c ∈ l, c ∈ cs z) → num z l + 1 ≤ 8 ^ l.length
  | 0, l, e, _ => by
    rw [List.length_eq_zero_iff.mp e]
    exact Nat.le_refl _
  | n + 1, l, e, h => by
    rcases List.eq_nil_or_concat l with rfl | ⟨l, c, rfl⟩
    · cases e
    rw [List.concat_eq_append] at *
    have i1 := num_lt h4 n l (by simpa using e) fun d m => h d (List.mem_append_left _ m)
    have i2 := pl_lt (h c (List.mem_append_right _ List.mem_cons_self))
    have i3 : num z l * (cs z).length ≤ num z l * 4 := Nat.mul_le_mul_left _ h4
    have i4 : 1 ≤ 8 ^ l.length := Nat.one_le_pow _ _ (by decide)
    rw [num_snoc, List.length_append, List.length_singleton, Nat.pow_succ]
    omega
theorem num_wide {z : Str} (h4 : (cs z).length ≤ 4) {l : List Nat} (h : ∀ c ∈ l, c ∈ cs z) (hl : l.length ≤ 4000) : num z l < 2 ^ 12000 := by
  have a := num_lt h4 _ l rfl h
  have b : (8 : Nat) ^ l.length ≤ 8 ^ 4000 := Nat.pow_le_pow_right (by decide) hl
  have c : (8 : Nat) ^ 4000 = 2 ^ 12000 := by
    rw [show 12000 = 3 * 4000 from rfl, Nat.pow_mul]
  omega
end Lb

namespace Lb
open PySem PySem.Spec PyProof.Rows L2
/-- how many words of fewer than m letters there are over k letters -/
def geo (k : Nat) : Nat → Nat
  | 0 => 0
  | m + 1 => geo k m + k ^ m
theorem geo_up (k : Nat) : ∀ m, geo k (m + 1) = k * geo k m + 1
  | 0 => by simp [geo]
  | m + 1 => by
    have ih := geo_up k m
    have e1 : geo k (m + 2) = geo k (m + 1) + k ^ (m + 1) := rfl
    have e2 : geo k (m + 1) = geo k m + k ^ m := rfl
    have e3 : k * geo k m + 1 = geo k m + k ^ m := ih.symm.trans e2
    have e4 : k * (k * geo k m + 1) = k * geo k m + k * k ^ m := by rw [e3, Nat.mul_add]
    rw [e1, ih, e4, Nat.pow_succ, Nat.mul_comm (k ^ m) k]
    omega
theorem geo_mono (k : Nat) {a b : Nat} (h : a ≤ b) : geo k a ≤ geo k b := by
  induction b with
  | zero =>
    rw [Nat.le_zero.mp h]
    exact Nat.le_refl _
  | succ b ih =>
    by_cases e : a = b + 1
    · rw [e]
      exact Nat.le_refl _
    · exact Nat.le_trans (ih (by omega)) (Nat.le_add_right _ _)
theorem num_geo {z : Str} (h1 : 1 ≤ (cs z).length) : ∀ (n : Nat) (l : List Nat), l.length = n → (∀ c ∈ l, c ∈ cs z) → geo (cs z).length n ≤ num z l ∧ num z l < geo (cs z).length (n + 1)
  | 0, l, e, _ => by
    rw [List.length_eq_zero_iff.mp e]
    exact ⟨Nat.le_refl _, by show 0 < 0 + 1; omega⟩
  | n + 1, l, e, h => by
    rcases List.eq_nil_or_concat l with rfl | ⟨l, c, rfl⟩
    · cases e
    rw [List.concat_eq_append] at *
    obtain ⟨i1, i2⟩ := num_geo h1 n l (by simpa using e) fun d m => h d (List.mem_append_left _ m)
    have i3 := pl_lt (h c (List.mem_append_right _ List.mem_cons_self))
    rw [num_snoc, geo_up _ n, geo_up _ (n + 1), Nat.mul_comm (num z l)]
    have j1 : (cs z).length * geo (cs z).length n ≤ (cs z).length * num z l := Nat.mul_le_mul_left _ i1
    have j2 : (cs z).length * (num z l + 1) ≤ (cs z).length * geo (cs z).length (n + 1) := Nat.mul_le_mul_left _ i2
    rw [Nat.mul_add] at j2
    exact ⟨by omega, by omega⟩
theorem num_cons (z : Str) (c : Nat) : ∀ l : List Nat, num z (c :: l) = (pl z c + 1) * (cs z).length ^ l.length + num z l := by
  have key : ∀ (l : List Nat) (a : Nat), l.foldl (fun i c => i * (cs z).length + pl z c + 1) a = a * (cs z).length ^ l.length + num z l := by
    intro l
    induction l with
    | nil => intro a; simp [num]
    | cons d l ih =>
      intro a
      have e : num z (d :: l) = (0 * (cs z).length + pl z d + 1) * (cs z).length ^ l.length + num z l := ih _
      rw [List.foldl_cons, ih, e, List.length_cons, Nat.pow_succ, Nat.zero_mul, Nat.zero_add, Nat.add_mul, Nat.add_mul, Nat.add_mul, Nat.mul_assoc, Nat.mul_comm (cs z).length]
      omega
  intro l
  have e : num z (c :: l) = (0 * (cs z).length + pl z c + 1) * (cs z).length ^ l.length + num z l := key l _
  rw [e, Nat.zero_mul, Nat.zero_add]
end Lb

namespace Lb
open PySem PySem.Spec PyProof.Rows L2
theorem idx_inj : ∀ {l : List Nat} {c d : Nat}, c ∈ l → d ∈ l → l.idxOf c = l.idxOf d → c = d
  | x :: l, c, d, hc, hd, e => by
    rw [List.idxOf_cons, List.idxOf_cons] at e
    by_cases h1 : x = c
    · by_cases h2 : x = d
      · exact h1.symm.trans h2
      · simp [h1, beq_eq_false_iff_ne.mpr (h1 ▸ h2)] at e
    · by_cases h2 : x = d
      · simp [h2, beq_eq_false_iff_ne.mpr (h2 ▸ h1)] at e
      · have m1 : c ∈ l := (List.mem_cons.mp hc).resolve_left (Ne.symm h1)
        have m2 : d ∈ l := (List.mem_cons.mp hd).resolve_left (Ne.symm h2)
        rw [beq_eq_false_iff_ne.mpr h1, beq_eq_false_iff_ne.mpr h2] at e
        exact idx_inj m1 m2 (by simpa using e)
/-- unlike words have unlike numbers -/
theorem num_inj {z : Str} : ∀ (n : Nat) (a b : List Nat), a.length = n → (∀ c ∈ a, c ∈ cs z) → (∀ c ∈ b, c ∈ cs z) → num z a = num z b → a = b
  | 0, a, b, la, _, hb, e => by
    rw [List.length_eq_zero_iff.mp la] at e ⊢
    rcases List.eq_nil_or_concat b with rfl | ⟨b, d, rfl⟩
    · rfl
    · rw [List.concat_eq_append, num_snoc] at e
      have : num z [] = 0 := rfl
      omega
  | n + 1, a, b, la, ha, hb, e => by
    rcases List.eq_nil_or_concat a with rfl | ⟨a, c, rfl⟩
    · cases la
    rw [List.concat_eq_append] at *
    rcases List.eq_nil_or_concat b with rfl | ⟨b, d, rfl⟩
    · rw [num_snoc] at e
      have : num z [] = 0 := rfl
      omega
    rw [List.concat_eq_append] at *
    rw [num_snoc, num_snoc] at e
    have mc := ha c (List.mem_append_right _ List.mem_cons_self)
    have md := hb d (List.mem_append_right _ List.mem_cons_self)
    have lc := pl_lt mc
    have ld := pl_lt md
    have e0 : num z a * (cs z).length + pl z c = num z b * (cs z).length + pl z d := by omega
    have k0 : 0 < (cs z).length := by omega
    have e1 : pl z c = pl z d := by
      have := congrArg (· % (cs z).length) e0
      simpa [Nat.add_mod, Nat.mul_mod_left, Nat.mod_eq_of_lt lc, Nat.mod_eq_of_lt ld] using this
    have e2 : num z a = num z b := by
      have : num z a * (cs z).length = num z b * (cs z).length := by omega
      exact Nat.eq_of_mul_eq_mul_right k0 this
    rw [num_inj n a b (by simpa using la) (fun x m => ha x (List.mem_append_left _ m)) (fun x m => hb x (List.mem_append_left _ m)) e2, idx_inj mc md e1]
end Lb

namespace Lb
open PySem PySem.Spec PyProof.Rows L2
theorem num_app (z : Str) (a : List Nat) : ∀ b : List Nat, num z (a ++ b) = num z a * (cs z).length ^ b.length + num z b := by
  have key : ∀ (l : List Nat) (s : Nat), l.foldl (fun i c => i * (cs z).length + pl z c + 1) s = s * (cs z).length ^ l.length + num z l := by
    intro l
    induction l with
    | nil => intro s; simp [num]
    | cons d l ih =>
      intro s
      rw [List.foldl_cons, ih, num_cons, List.length_cons, Nat.pow_succ, Nat.add_mul, Nat.add_mul, Nat.add_mul, Nat.mul_assoc, Nat.mul_comm (cs z).length]
      omega
  intro b
  have e : num z (a ++ b) = b.foldl (fun i c => i * (cs z).length + pl z c + 1) (num z a) := by
    unfold num
    rw [List.foldl_append]
  rw [e, key]
theorem num_first {z : Str} {c : Nat} (h : pl z c = 0) : ∀ n, num z (List.replicate n c) = geo (cs z).length n
  | 0 => rfl
  | n + 1 => by
    rw [List.replicate_succ', num_snoc, num_first h n, h, geo_up, Nat.mul_comm]
end Lb

namespace Lb
open PySem PySem.Spec PyProof.Rows L2
theorem pl_get {z : Str} {c : Nat} (h : c ∈ cs z) : (cs z)[pl z c]? = some c := by
  have l := pl_lt h
  rw [List.getElem?_eq_getElem l]
  exact congrArg some (List.getElem_idxOf l)
theorem pl_mono {z : Str} (asc : (cs z).Pairwise (· < ·)) {c d : Nat} (hc : c ∈ cs z) (hd : d ∈ cs z) (h : c < d) : pl z c < pl z d := by
  have gc := pl_get hc
  have gd := pl_get hd
  obtain ⟨ic, ec⟩ := List.getElem?_eq_some_iff.mp gc
  obtain ⟨id, ed⟩ := List.getElem?_eq_some_iff.mp gd
  by_cases k : pl z c < pl z d
  · exact k
  · by_cases e : pl z c = pl z d
    · rw [idx_inj hc hd e] at h
      exact absurd h (Nat.lt_irrefl _)
    · have := List.pairwise_iff_getElem.mp asc (pl z d) (pl z c) id ic (by omega)
      omega
/-- words of one length: the numbers rise as the words do -/
theorem num_rise {z : Str} (asc : (cs z).Pairwise (· < ·)) (k1 : 1 ≤ (cs z).length) : ∀ (a b : List Nat), a.length = b.length → (∀ c ∈ a, c ∈ cs z) → (∀ c ∈ b, c ∈ cs z) → a < b → num z a < num z b
  | [], [], _, _, _, h => absurd h (by simp)
  | c :: a, d :: b, l, ha, hb, h => by
    have l' : a.length = b.length := by simpa using l
    have mc := ha c List.mem_cons_self
    have md := hb d List.mem_cons_self
    have sa := fun x m => ha x (List.mem_cons_of_mem _ m)
    have sb := fun x m => hb x (List.mem_cons_of_mem _ m)
    rw [num_cons, num_cons, l']
    rcases List.cons_lt_cons_iff.mp h with q | ⟨rfl, q⟩
    · have pm := pl_mono asc mc md q
      have ga := (num_geo k1 a.length a rfl sa).2
      have gb := (num_geo k1 b.length b rfl sb).1
      rw [l'] at ga
      have up : geo (cs z).length (b.length + 1) = geo (cs z).length b.length + (cs z).length ^ b.length := rfl
      have m2 : (pl z c + 2) * (cs z).length ^ b.length ≤ (pl z d + 1) * (cs z).length ^ b.length := Nat.mul_le_mul_right _ (by omega)
      have e2 : (pl z c + 2) * (cs z).length ^ b.length = (pl z c + 1) * (cs z).length ^ b.length + (cs z).length ^ b.length := by
        rw [show pl z c + 2 = (pl z c + 1) + 1 by omega, Nat.add_mul (pl z c + 1) 1, Nat.one_mul]
      omega
    · have := num_rise asc k1 a b l' sa sb q
      omega
theorem lt_tri : ∀ (a b : List Nat), a.length = b.length → a < b ∨ a = b ∨ b < a
  | [], [], _ => .inr (.inl rfl)
  | c :: a, d :: b, l => by
    rcases Nat.lt_trichotomy c d with q | q | q
    · exact .inl (List.cons_lt_cons_iff.mpr (.inl q))
    · subst q
      rcases lt_tri a b (by simpa using l) with k | k | k
      · exact .inl (List.cons_lt_cons_iff.mpr (.inr ⟨rfl, k⟩))
      · exact .inr (.inl (by rw [k]))
      · exact .inr (.inr (List.cons_lt_cons_iff.mpr (.inr ⟨rfl, k⟩)))
    · exact .inr (.inr (List.cons_lt_cons_iff.mpr (.inl q)))
/-- the numbers rise as the word order does -/
theorem num_order {z : Str} (al : IsAlpha z) {x y : Str} (ox : Over z x) (oy : Over z y) : (num z (cs x) < num z (cs y)) ↔ (x.length < y.length ∨ (x.length = y.length ∧ cs x < cs y)) := by
  have k1 : 1 ≤ (cs z).length := by
    rw [cs_len]
    exact al.len1
  have far : ∀ {u v : Str}, Over z u → Over z v → u.length < v.length → num z (cs u) < num z (cs v) := fun {u v} ou ov h => by
    have h1 := (num_geo k1 _ (cs u) rfl ou).2
    have h2 := (num_geo k1 _ (cs v) rfl ov).1
    have h3 := geo_mono (cs z).length (show (cs u).length + 1 ≤ (cs v).length by rw [cs_len, cs_len]; exact h)
    omega
  constructor
  · intro h
    by_cases a : x.length < y.length
    · exact .inl a
    · by_cases b : y.length < x.length
      · have := far oy ox b
        omega
      · refine .inr ⟨by omega, ?_⟩
        by_cases l : cs x < cs y
        · exact l
        · by_cases e : cs x = cs y
          · rw [e] at h
            exact absurd h (Nat.lt_irrefl _)
          · have g : cs y < cs x := by
              rcases lt_tri (cs x) (cs y) (by rw [cs_len, cs_len]; omega) with q | q | q
              · exact absurd q l
              · exact absurd q e
              · exact q
            have := num_rise al.asc k1 (cs y) (cs x) (by rw [cs_len, cs_len]; omega) oy ox g
            omega
  · rintro (h | ⟨h, l⟩)
    · exact far ox oy h
    · exact num_rise al.asc k1 _ _ (by rw [cs_len, cs_len]; exact h) ox oy l
end Lb

namespace Lb
open PySem PySem.Spec PyProof.Rows L2
/-! ### (number, text) < (number, text) -/
def rKeyLt (K : PySem.W.Frag) : R2 := fun x y H Q => ∃ (a b : Addr) (n m : Int) (u v : Str), x = .ref a ∧ y = .ref b ∧ SqT K H a [.int n, .str u] ∧ SqT K H b [.int m, .str v] ∧ Q (.bl (if n = m then decide (u.cps.toList < v.cps.toList) else decide (n < m))) H
theorem op_keyLt {X : Cx} (hu : X.A.units < cLine) : OpR X (compareOp .Lt) (rKeyLt X.K) := by
  intro pins s σ H x y v u Q I rx ry h
  obtain ⟨a, b, n, m, p, q, rfl, rfl, ha, hb, k⟩ := h
  cases rx
  cases ry
  obtain ⟨its, r1, p1, _⟩ := I.tuple ha
  obtain ⟨its2, r2, p2, _⟩ := I.tuple hb
  obtain ⟨x1, x2, rfl, ⟨t1, rfl⟩, ⟨t2, rfl⟩⟩ := vals2 r1
  obtain ⟨y1, y2, rfl, ⟨t3, rfl⟩, ⟨t4, rfl⟩⟩ := vals2 r2
  have R := Ob.RcOp.tuples_lt (A := X.A) (s := s) (e := fun j => if j = 0 then decide (n = m) else decide (p = q)) (r := fun j => if j = 0 then decide (n < m) else decide (p.cps.toList < q.cps.toList)) p1 p2 hu (fun j h1 h2 => by
    match j, h1, h2 with
    | 0, _, _ =>
      have z : (n == m) = decide (n = m) := by
        by_cases q : n = m
        · rw [decide_eq_true q]; exact beq_iff_eq.mpr q
        · rw [decide_eq_false q]; exact beq_eq_false_iff_ne.mpr q
      show SeqAt.EqAt _ _ (.int n t1) (.int m t3) (decide (n = m))
      rw [← z]
      exact SeqAt.EqAt.int_int _ _ _ _
    | 1, _, _ =>
      have z : (p == q) = decide (p = q) := by
        by_cases e : p = q
        · rw [decide_eq_true e]; exact beq_iff_eq.mpr e
        · rw [decide_eq_false e]; exact beq_eq_false_iff_ne.mpr e
      show SeqAt.EqAt _ _ (.str p t2) (.str q t4) (decide (p = q))
      rw [← z]
      exact SeqAt.EqAt.str_str _ _ _ _) (fun j h1 h2 _ => by
    match j, h1, h2 with
    | 0, _, _ => exact Ob.RcOp.lt_int _ _ _ _
    | 1, _, _ => exact fun _ _ _ _ h => PyProof.Rows.lt_str h)
  have e : Ob.lexAt (fun j => if j = 0 then decide (n = m) else decide (p = q)) (fun j => if j = 0 then decide (n < m) else decide (p.cps.toList < q.cps.toList)) (decide (2 < 2)) 0 2 = (if n = m then decide (p.cps.toList < q.cps.toList) else decide (n < m)) := by
    show (if decide (n = m) = true then (if decide (p = q) = true then decide (2 < 2) else decide (p.cps.toList < q.cps.toList)) else decide (n < m)) = _
    by_cases e1 : n = m
    · by_cases e2 : p = q
      · subst e2
        simp [e1, List.lt_irrefl]
      · simp [e1, e2]
    · simp [e1]
  have z : wpAny (model X.prog X.w) X.A (compareOp .Lt (.ref a) (.ref b)) (EP X pins σ Q) X.xe s := R X.prog X.w X.xe (EP X pins σ Q) ⟨.bl _, H, I, rfl, by
    have e' := e
    rw [← e'] at k
    exact k⟩
  exact z
end Lb

namespace Lb
open PySem PySem.Spec PyProof.Rows L2 Builtin.Str SC
/-! ### sep.join(reversed(xs)), xs a list of texts -/
theorem join_rev {P : Program} {w : World} {A : Around} {E Q : Value → Shared → Prop} {s : Shared} {sep : Str} {t : Tok} {it l : Addr} {items : Array Value} {xs : List Str} (calm : A.handled = none) (at_ : s.heap.IsRevIter it l ((items.size : Int) - 1)) (of : s.heap.IsList l items) (ne : l ≠ it) (small : items.size ≤ sizeLine) (its : StrsAre items.toList xs)
    (fits : JoinOk sep xs.reverse = true) (q : ∀ (h' : Heap) (tk : Nat) (t' : Tok), (∀ b o, b ≠ it → s.heap.get? b = some o → h'.get? b = some o) → Q (.str (Txt.join sep xs.reverse) t') { s with heap := h', toks := tk }) : wpAny (model P w) A (call (.builtin "str.join") [.str sep t, .ref it]) Q E s := by
  refine wpAny_call (codeAny_call_builtin F.slot_str_join.plain F.entry_str_join (F.slot_str_join.check _ _ _ _ _ _ _ _ (typeIs_str _ _ _) (F.args_str_join_2 _ _) ?_))
  rw [join_tree_other]
  refine wpAny_bind (wpAny_typeOf at_.typeIs ?_)
  show wpAny _ A.in1 ((pyIter (.ref it)).tryCatch _ >>= fun i => collect i >>= fun ys => joinTail sep ys) _ _ s
  refine wpAny_bind (wpAny_tryCatch (wpAny_pyIter_revIter at_ (wpAny_bind (RT.collect_rev (A := A.in1) calm at_ of ne small fun h' tk acc keep back => ?_))))
  have its2 : ∀ (n : Nat) (vs : List Value) (ys : List Str), vs.length = n → vs.length = ys.length → (∀ (j : Nat) (v : Value), vs[j]? = some v → ∃ (y : Str) (u : Tok), ys[j]? = some y ∧ v = Value.str y u) → ∃ ps : List (Str × Tok), strValues ps = vs ∧ ps.map (·.1) = ys := by
    intro n
    induction n with
    | zero =>
      intro vs ys h1 h2 _
      rw [List.length_eq_zero_iff.mp h1] at *
      rw [List.length_eq_zero_iff.mp h2.symm]
      exact ⟨[], rfl, rfl⟩
    | succ n ih =>
      intro vs ys h1 h2 h3
      match vs, ys, h1, h2, h3 with
      | v :: vs, y :: ys, h1, h2, h3 =>
        obtain ⟨y', u, e1, e2⟩ := h3 0 v rfl
        cases e1
        obtain ⟨ps, p1, p2⟩ := ih vs ys (by simpa using h1) (by simpa using h2) fun j v hj => h3 (j + 1) v hj
        refine ⟨(y, u) :: ps, ?_, by rw [List.map_cons, p2]⟩
        rw [e2, ← p1]
        rfl
  have len : items.toList.length = xs.length := its.length
  have la : acc.toList.length = xs.reverse.length := by
    rw [List.length_reverse, ← len, Array.length_toList, Array.length_toList]
    exact back.1
  obtain ⟨ps, e1, e2⟩ := its2 _ acc.toList xs.reverse rfl la fun j v hj => by
    have hb : items[items.size - 1 - j]? = some v := back.2 j v (by rw [← Array.getElem?_toList]; exact hj)
    have lj : j < acc.toList.length := (List.getElem?_eq_some_iff.mp hj).1
    rw [← Array.getElem?_toList] at hb
    obtain ⟨u, ev⟩ := SS.strs_at its _ _ hb
    have lx : j < xs.length := by
      rw [la, List.length_reverse] at lj
      exact lj
    rw [Array.length_toList] at len
    refine ⟨_, u, ?_, ev⟩
    rw [List.getElem?_reverse lx, len, List.getD_eq_getElem?_getD, List.getElem?_eq_getElem (by omega)]
    rfl
  rw [← e1]
  rw [← e2] at fits
  have no : Builtin.Str.tooLong ((ps.map (·.1)).toArray.foldl (· + ·.length + sep.length) 0) = false := by
    have f := fits
    unfold JoinOk at f
    exact (Bool.not_eq_true' _).mp f
  have made : Gives (joinTail sep (strValues ps)) (joinMade sep ps) := by
    have g := gives_joinTail sep ps no
    clear its2 e1 e2 fits
    rcases ps with _ | ⟨p1, _ | ⟨p2, r⟩⟩
    · exact g
    · exact g
    · exact g
  exact made P w A (wants Q E) _ (post_join ps ⟨joinFit_length no, fun t' k => by
    rw [e2]
    exact q h' k t' keep⟩)
def tJoinRev (K : PySem.W.Frag) (to te : TE) : TE := fun σ H Q => to σ H fun v H1 => ∃ sep : Str, v = .str sep ∧ te σ H1 fun u H2 => ∃ (l : Addr) (ws : List Str), u = .ref l ∧ SqL K H2 l (ws.map V.str) ∧ JoinOk sep ws.reverse = true ∧ Q (.str (Txt.join sep ws.reverse)) H2
theorem pe_joinRev {X : Cx} {o e : Expr} {to te : TE} {apos p p2 cpos : Pos} (hc : X.calm = true) (hg : Gl X "reversed") (hm : X.mg "reversed" = none) (ho : PE X o to) (he : PE X e te) (base : attributeBase o "join" X.env (eval o X.env) = eval o X.env := by rfl)
    (s1 : starEach [.Call (.Name "reversed" p) [e] [] p2] X.env = (false, eval (.Call (.Name "reversed" p) [e] [] p2) X.env) :: starEach [] X.env := by rfl) (s2 : starEach [e] X.env = (false, eval e X.env) :: starEach [] X.env := by rfl)
    (few : ((backTo cpos (starEach [.Call (.Name "reversed" p) [e] [] p2] X.env)).all (fun x => !x.1) && (backToKw cpos (keywordEach [] X.env)).all (fun x => x.1.isSome) && decide (([.Call (.Name "reversed" p) [e] [] p2] : List Expr).length + ([] : List Keyword).length + (if ([] : List Keyword).isEmpty then 0 else 1) < 30)) = true := by rfl)
    (line : (apos.endLine == cpos.line) = true := by rfl) (no : (backTo cpos (starEach [] X.env)).any (·.1) = false := by rfl) (no2 : (backTo p2 (starEach [] X.env)).any (·.1) = false := by rfl) : PE X (.Call (.Attribute o "join" apos) [.Call (.Name "reversed" p) [e] [] p2] [] cpos) (tJoinRev X.K to te) := by
  refine ⟨fun pins s σ H Q I h => ?_⟩
  refine wpAny_Call_method_late base few line rfl (thn (ho.run pins s σ H _ I h) fun v sa ⟨x, H1, I1, r1, sep, ex, h1⟩ => ?_)
  subst ex
  obtain ⟨tk, rfl⟩ := (show ∃ t, v = Value.str sep t from r1)
  refine ⟨"str", _, PySem.F.plainAttrs_str, PySem.F.slot_str_join, PySem.F.type_str_join, typeIs_str _ _ _, (fun _ e => nomatch e), ?_⟩
  rw [s1]
  refine Calls.callWith_builtin (by show (false || (backTo cpos (starEach [] X.env)).any (·.1)) = false; rw [no] <;> rfl) (Calls.evalArgs_plain ?_)
  show wpAny _ _ (spliced ((false, eval (.Call (.Name "reversed" p) [e] [] p2) X.env) :: backTo cpos (starEach [] X.env))) _ _ sa
  refine Calls.spliced_cons ?_
  refine wpAny_Call_Name_kw (ld_blt I1 hg hm (show bootBuiltins "reversed" = some (.type "reversed") by decide +kernel) (PyProof.Rows.callWith_type1 ?_ s2 (by rfl)))
  rw [s2]
  refine Calls.spliced_cons (thn (he.run pins sa σ H1 _ I1 h1) fun u sb ⟨y, H2, I2, r2, l, ws, ey, hl, fits, q⟩ => Calls.spliced_nil ?_)
  subst ey
  cases r2
  obtain ⟨its, rv, list, size⟩ := I2.list hl
  have IL := list.isList
  refine call_reversed_list IL (Calls.spliced_nil ?_)
  obtain ⟨ol, el, _⟩ := id IL
  have lt : l < sb.heap.objs.size := Heap.lt_size el
  refine join_rev (items := its.toArray) (l := l) (xs := ws) (I2.ok.hd hc) ⟨_, Heap.get?_push_size _ rfl, rfl, rfl⟩ (IL.push _) (Nat.ne_of_lt lt) ?_ rv.strs fits fun h' t2 t3 keep => ?_
  · rw [List.size_toArray, ← rv.length]
    exact size
  · exact ⟨.str _, H2, I2.kept (t' := t2) fun b o e => keep b o (Nat.ne_of_lt (Heap.lt_size e)) (Heap.get?_push_of_some _ e), ⟨t3, rfl⟩, q⟩
/-- a list of signs as texts -/
def signS (c : Nat) : Str := ⟨#[c]⟩
theorem join_fits {l : List Nat} (h : l.length ≤ 16000000) : JoinOk (Str.ofString "") (l.map signS) = true := by
  have key : ∀ (l : List Nat) (a : Nat), (l.map signS).foldl (fun x y => x + y.length + (Str.ofString "").length) a = a + l.length := by
    intro l
    induction l with
    | nil => intro a; rfl
    | cons c l ih =>
      intro a
      rw [List.map_cons, List.foldl_cons, ih, List.length_cons]
      show a + 1 + 0 + l.length = _
      omega
  have e : (l.map signS).toArray.foldl (fun x y => x + y.length + (Str.ofString "").length) 0 = l.length := by
    rw [List.foldl_toArray', key, Nat.zero_add]
    rfl
  unfold JoinOk
  rw [e]
  show (!decide (l.length > 16777216)) = true
  rw [decide_eq_false (by omega)]
  rfl
theorem join_signs (l : List Nat) : cs (Txt.join (Str.ofString "") (l.map signS)) = l := by
  rw [cs_join0, List.map_map]
  induction l with
  | nil => rfl
  | cons c l ih =>
    rw [List.map_cons, List.flatten_cons, ih]
    rfl
end Lb

namespace SetQ
open PySem PySem.Spec PyProof.Rows L2 PySem.Froz
open Sem (wp)
/-! ### sorted(set(a)) of an ascending text a -/
theorem tail_ris (ep : Nat) (es1 : Array (Int × Value)) (t2 : SetTable) (wd : Bool) (r : Ris t2.place.toList) : Ris (tailTx ep es1 t2 wd).2.2.place.toList ∧ (tailTx ep es1 t2 wd).2.2.led = t2.led := by
  unfold tailTx
  split
  · exact ⟨relayAll_ris _ _ _, relayAll_led _ _ _⟩
  · exact ⟨r, rfl⟩
theorem addTx_ris (h : Int) (v : Value) (D : SD) (r : Ris D.2.2.place.toList) : Ris (addTx h v D).2.2.place.toList ∧ (addTx h v D).2.2.led = D.2.2.led := by
  have r1 := layNew_ris D.2.2 D.1 h v r
  have l1 := layNew_led D.2.2 D.1 h v
  have mid : ∀ t : SetTable, t = (if (layNew D.2.2 D.1 h v).2.1.plain = true then { (layNew D.2.2 D.1 h v).2.1 with plain := false } else (layNew D.2.2 D.1 h v).2.1) → Ris t.place.toList ∧ t.led = D.2.2.led := by
    intro t e
    rw [e]
    split
    · exact ⟨r1, l1⟩
    · exact ⟨r1, l1⟩
  have m := mid _ rfl
  have q := tail_ris D.2.1 (layNew D.2.2 D.1 h v).1 _ (layNew D.2.2 D.1 h v).2.2.1 m.1
  exact ⟨q.1, q.2.trans m.2⟩
theorem runD_ris (w : World) : ∀ (l : List Nat) (tk : Tok) (D : SD), Ris D.2.2.place.toList → Ris (runD w l tk D).2.2.place.toList ∧ (runD w l tk D).2.2.led = D.2.2.led
  | [], _, _, r => ⟨r, rfl⟩
  | c :: l, tk, D, r => by
    have s := addTx_ris (hashStr w (sing c)) (.str (sing c) tk) D r
    have i := runD_ris w l (tk + 2) _ s.1
    exact ⟨i.1, i.2.trans s.2⟩
theorem runD_ok {P : Program} {w : World} : ∀ (l : List Nat) (tk : Tok) (D : SD) (m : List Str), TxOk P w D m → (∀ c ∈ l, sing c ∉ m) → l.Nodup → TxOk P w (runD w l tk D) (l.reverse.map sing ++ m)
  | [], _, _, _, F, _, _ => F
  | c :: l, tk, D, m, F, hn, nd => by
    obtain ⟨n1, n2⟩ := List.nodup_cons.mp nd
    have i := runD_ok l (tk + 2) _ (sing c :: m) (add_ok tk F) (fun d hd hm => ?_) n2
    · rw [List.reverse_cons, List.map_append, List.append_assoc]
      exact i
    · rcases List.mem_cons.mp hm with q | q
      · have e : [d] = [c] := congrArg (fun y : Str => y.cps.toList) q
        rw [(List.cons.inj e).1] at hd
        exact n1 hd
      · exact hn d (List.mem_cons_of_mem _ hd) q
section
variable {P : Program} {w : World} {A : Around} {E : Value → Shared → Prop} {s : Shared}
def freshT (w : World) : SetTable := .fresh 0 0 (!w.params.followText "set-order")
def setObj0 (w : World) : Obj := { cls := .type "set", dict := none, data := .set #[] 0 (freshT w) }
theorem new_set1 (a : Value) {Q₁ : Value → Shared → Prop} (h : Q₁ (.ref s.heap.objs.size) { s with heap := s.heap.push (setObj0 w) }) :
    codeAny (model P w) A (.call (.builtin "set.__new__") ⟨[.type "set", a], []⟩) (wants Q₁ E) s := by
  refine codeAny_of_tree ?_
  show wpAny _ A.in1 (do checkBuiltinCall "set.__new__" ⟨[.type "set", a], []⟩; again (.builtin "set.__new__" ⟨[.type "set", a], []⟩)) _ _ s
  refine wpAny_bind (wpAny_of_eq (F.newCall_set_1 a) (wpAny_pure ⟨plainId_quiet F.plain_set_new _, codeAny_builtin F.entry_set_new ?_⟩))
  rw [Around.under_plainId F.plain_set_new _]
  unfold Builtin.«set.__new__» Builtin.Frozenset.newClass
  have isS := sub_set_self
  obtain ⟨hp, g, d, tk, os⟩ := s
  dsimp only
  wp_walk
  refine wpAny_askSetting (wpAny_pure ?_)
  dsimp only
  simp only [newObj]
  exact wpAny_bind (wpAny_alloc (wpAny_pure (wpAny_pure h)))
set_option maxHeartbeats 3200000 in
/-- set(x), x a text of unlike ascii signs: its payload; what stood stands -/
theorem call_setT {x : Str} {u : Tok} {Q : Value → Shared → Prop} (hh : A.handled = none) (asc : x.cps.all (· < 128) = true) (nd : x.cps.toList.Nodup) (hb : x.cps.toList.length < scanBound)
    (h : ∀ (h' : Heap) (tk : Nat) (D : SD), h'.get? s.heap.objs.size = some (sObj "set" D) → TxOk P w D (x.cps.toList.reverse.map sing) → Ris D.2.2.place.toList → D.2.2.led = (!w.params.followText "set-order") →
      (∀ b o, s.heap.get? b = some o → h'.get? b = some o) → Q (.ref s.heap.objs.size) { s with heap := h', toks := tk }) :
    wpAny (model P w) A (call (.type "set") [.str x u]) Q E s := by
  obtain ⟨c, tl, hmro⟩ := F.called_set.mro
  have hmade := F.called_set.made
  have hsub := F.called_set.sub
  refine wpAny_call (codeAny_of_tree ?_)
  show wpAny _ _ (callAny (.type "set") _) _ _ _
  refine wpAny_pure ⟨Code.quiet_builtin _ (by decide +kernel), codeAny_builtin F.entry_type_call ?_⟩
  rw [Around.under_plain (weight_type_call_type "set" [.str x u] []) rfl]
  have n1 := F.called_set.notType
  have n2 := F.called_set.canCreate
  have n3 := F.typeCall_set_1 (.str x u)
  repeat (any_goals (first | assumption | wp_step))
  refine codeAny_mono (new_set1 (.str x u) (E := E) (Q₁ := fun obj s₁ => obj = .ref s.heap.objs.size ∧ s₁ = { s with heap := s.heap.push (setObj0 w) }) ⟨rfl, rfl⟩) fun r s₁ hr => ?_
  cases r with
  | error e => exact hr
  | ok fl =>
    cases fl with
    | ret obj =>
      obtain ⟨rfl, rfl⟩ := hr
      have at0 : (s.heap.push (setObj0 w)).get? s.heap.objs.size = some (setObj0 w) := Heap.get?_push_size _ rfl
      have ty0 : Shared.TypeIs { s with heap := s.heap.push (setObj0 w) } (.ref s.heap.objs.size) "set" := ⟨_, at0, rfl⟩
      have hli := F.called_set.init.lookup
      have hbi := F.called_set.init.bind (.ref s.heap.objs.size)
      repeat (any_goals (first | assumption | wp_step))
      refine codeAny_mono (codeAny_call_builtin (R := wants (fun r s₂ => r = .none ∧ ∃ h' tk D, s₂ = { s with heap := h', toks := tk } ∧ h'.get? s.heap.objs.size = some (sObj "set" D) ∧ TxOk P w D (x.cps.toList.reverse.map sing) ∧ Ris D.2.2.place.toList ∧
          D.2.2.led = (!w.params.followText "set-order") ∧ ∀ b o, s.heap.get? b = some o → h'.get? b = some o) E) F.called_set.init.plain F.entry_set_init (check_set_init_1 ty0 ?_)) fun r₂ s₂ hr₂ => ?_
      · have z1 := F.sub_str_set
        have z2 := F.sub_str_frozenset
        have z3 : (Value.type "str" == Value.type "dict") = false := by decide
        unfold Builtin.«set.__init__» noKeywords Builtin.Frozenset.updateFrom
        generalize hPI : pyIter = PI
        wp_walk
        subst hPI
        refine wpAny_pyIter_ascii asc ?_
        refine wpAny_bind (wpAny_runValue ?_)
        have lt0 : s.heap.objs.size < (s.heap.push (setObj0 w)).objs.size := by
          rw [Heap.size_push]
          exact Nat.lt_succ_self _
        have ne0 : s.heap.objs.size ≠ (s.heap.push (setObj0 w)).objs.size := Nat.ne_of_lt lt0
        have hA : A.in1.in1.handled = none := hh
        refine code_update (P := P) (a := s.heap.objs.size) (it := (s.heap.push (setObj0 w)).objs.size) ne0 (T := "set") (x := x) (u := u) hA x.cps.toList 0 (#[], 0, freshT w) [] _ rfl ?_ ?_ (TxOk.nil (by rfl)) (fun c _ m => absurd m List.not_mem_nil) nd ?_ ?_
        · exact Heap.get?_push_of_some _ at0
        · exact Heap.get?_push_size _ rfl
        · show 0 + x.cps.toList.length < scanBound
          omega
        · have ris0 : Ris (freshT w).place.toList := List.Pairwise.nil
          have rr := runD_ris w x.cps.toList s.toks (#[], 0, freshT w) ris0
          have ok := runD_ok (P := P) (w := w) x.cps.toList s.toks (#[], 0, freshT w) [] (TxOk.nil (by rfl)) (fun c _ m => absurd m List.not_mem_nil) nd
          rw [List.append_nil] at ok
          generalize runD w x.cps.toList s.toks (#[], 0, freshT w) = D at *
          show wpAny _ _ _ _ _ _
          refine wpAny_pure ?_
          show wpAny _ _ (ret Value.none) _ _ _
          refine wpAny_pure ⟨rfl, _, _, D, rfl, ?_, ok, rr.1, rr.2, fun b o e => ?_⟩
          · refine Heap.get?_push_of_some _ (Heap.get?_push_of_some _ ?_)
            refine PySem.Heap.get?_update_of_ne _ (Ne.symm ne0) ?_
            exact get_upd _ (Heap.get?_push_of_some _ at0) rfl
          · have lb : b < s.heap.objs.size := Heap.lt_size e
            refine Heap.get?_push_of_some _ (Heap.get?_push_of_some _ ?_)
            refine PySem.Heap.get?_update_of_ne _ (Nat.ne_of_gt (Nat.lt_trans lb lt0)) ?_
            refine PySem.Heap.get?_update_of_ne _ (Nat.ne_of_gt lb) ?_
            exact Heap.get?_push_of_some _ (Heap.get?_push_of_some _ e)
      · cases r₂ with
        | error e => exact hr₂
        | ok fl₂ =>
          cases fl₂ with
          | ret r =>
            obtain ⟨rfl, h', tk, D, rfl, g1, g2, g3, g4, g5⟩ := hr₂
            repeat (any_goals (first | assumption | wp_step))
            exact h _ _ D g1 g2 g3 g4 g5
          | _ => exact hr₂.elim
    | _ => exact hr.elim
end
end SetQ

namespace SetQ
open PySem PySem.Spec PyProof.Rows L2 PySem.Froz
open Sem (wp)
section
variable {P : Program} {w : World} {A : Around} {E : Value → Shared → Prop} {s : Shared}
theorem nodup_perm {α : Type} [DecidableEq α] : ∀ {l ws : List α}, l.Nodup → (∀ k ∈ l, k ∈ ws) → ws.length = l.length → ws.Perm l
  | [], ws, _, _, hl => by
    have : ws = [] := List.length_eq_zero_iff.mp hl
    rw [this]
  | k :: l, ws, nd, sub, hl => by
    obtain ⟨n1, n2⟩ := List.nodup_cons.mp nd
    have hk := sub k List.mem_cons_self
    have ih := nodup_perm (l := l) (ws := ws.erase k) n2 (fun x hx => ?_) (by rw [List.length_erase_of_mem hk, hl]; rfl)
    · exact (List.perm_cons_erase hk).trans (ih.cons k)
    · have hne : x ≠ k := fun e => n1 (e ▸ hx)
      exact (List.mem_erase_of_ne hne).mpr (sub x (List.mem_cons_of_mem _ hx))
/-- the keys of such a payload, as texts -/
theorem payload_strs {D : SD} {l : List Str} (F : TxOk P w D l) (nd : l.Nodup) : ∃ ws : List Str, StrsAre (D.1.toList.map (·.2)) ws ∧ ws.Perm l := by
  have key : ∀ es : List (Int × Value), ElemsOf (strKind P w) es → ∃ ws : List Str, StrsAre (es.map (·.2)) ws ∧ ws.length = es.length ∧ ∀ k : Str, (∃ e ∈ es, (strKind P w).is k e.2 = true) → k ∈ ws := by
    intro es
    induction es with
    | nil => exact fun _ => ⟨[], .nil, rfl, fun k ⟨e, he, _⟩ => absurd he List.not_mem_nil⟩
    | cons e es ih =>
      intro g
      obtain ⟨ws, h1, h2, h3⟩ := ih g.tail
      obtain ⟨⟨k, hk, _⟩, _⟩ := g.head
      obtain ⟨t, et⟩ := Value.isStrOf_shape (show Value.isStrOf k e.2 = true from hk)
      refine ⟨k :: ws, ?_, by rw [List.length_cons, List.length_cons, h2], fun k' ⟨e', he', hk'⟩ => ?_⟩
      · rw [List.map_cons, et]
        exact .cons k t h1
      · rcases List.mem_cons.mp he' with rfl | he'
        · obtain ⟨t', et'⟩ := Value.isStrOf_shape (show Value.isStrOf k' e'.2 = true from hk')
          rw [et] at et'
          injection et' with e1
          rw [e1]
          exact List.mem_cons_self
        · exact List.mem_cons_of_mem _ (h3 k' ⟨e', he', hk'⟩)
  obtain ⟨ws, h1, h2, h3⟩ := key D.1.toList F.el
  refine ⟨ws, h1, nodup_perm nd (fun k hk => h3 k ((F.mem k).mp hk)) ?_⟩
  rw [h2, Array.length_toList]
  exact F.sz
theorem sorted_setT {D : SD} {a : Addr} {l : List Str} {Q : Value → Shared → Prop} (ha : s.heap.get? a = some (sObj "set" D)) (F : TxOk P w D l) (nd : l.Nodup) (r : Ris D.2.2.place.toList) (hl : D.2.2.led = (!w.params.followText "set-order")) (hh : A.handled = none) (h64 : l.length < 64)
    (hQ : ∀ s' p (out : Array Value) (c : Nat) (ws : List Str), (∀ b o, s.heap.get? b = some o → s'.heap.get? b = some o) → s'.gens = s.gens → s'.os = s.os → s.heap.objs.size ≤ p →
      s'.heap.get? p = some (seqObj "list" out c) → StrsAre out.toList ws → sortedS ws = true → ws.Perm l → Q (.ref p) s') :
    wpAny (model P w) A (call (.builtin "sorted") [.ref a]) Q E s := by
  obtain ⟨es, ep, t⟩ := D
  obtain ⟨ws, hS, pw⟩ := payload_strs F nd
  have hsz : es.size = l.length := F.sz
  have led : w.params.followText "set-order" = true ∨ t.led = true := by
    have hl' : t.led = (!w.params.followText "set-order") := hl
    cases e : w.params.followText "set-order" with
    | true => exact .inl rfl
    | false =>
      rw [e] at hl'
      exact .inr hl'
  refine Calls.call_function_entry kind_sorted plain_sorted entry_sorted (args_sorted1 _) ?_
  unfold Builtin.«sorted»
  refine wpAny_bind (m := checkCount "sorted" 1 1 _) (wpAny_pure ?_)
  refine wpAny_bind (collect_set (A := A.in1) (a := a) (es := es) (ep := ep) (t := t) hh ⟨_, ha, rfl, rfl⟩ F.fit (by rw [hsz]; unfold scanBound; omega) r led fun s1 vs k1 hz g1 o1 pm => ?_)
  have vl : vs.length = l.length := by rw [pm.length_eq, List.length_map, Array.length_toList]; exact hsz
  -- what was collected, as texts
  have toS : ∀ {us vs : List Value}, us.Perm vs → ∀ {ws : List Str}, StrsAre vs ws → ∃ ws', StrsAre us ws' ∧ ws'.Perm ws := by
    intro us vs p
    induction p with
    | nil => exact fun {ws} h => ⟨ws, h, .refl _⟩
    | cons x _ ih =>
      intro ws h
      cases h with
      | cons y t h =>
        obtain ⟨ws', q1, q2⟩ := ih h
        exact ⟨y :: ws', .cons y t q1, q2.cons y⟩
    | swap x y l =>
      intro ws h
      cases h with
      | cons y1 t1 h =>
        cases h with
        | cons y2 t2 h => exact ⟨y2 :: y1 :: _, .cons y2 t2 (.cons y1 t1 h), .swap ..⟩
    | trans _ _ ih1 ih2 =>
      intro ws h
      obtain ⟨w1, q1, q2⟩ := ih2 h
      obtain ⟨w2, q3, q4⟩ := ih1 q1
      exact ⟨w2, q3, q4.trans q2⟩
  obtain ⟨us, hU, pU⟩ := toS pm hS
  refine wpAny_bind (wpAny_newList ?_ (by rw [vl, sizeLine_eq]; omega))
  have at1 : (s1.heap.push (seqObj "list" vs.toArray 0)).get? s1.heap.objs.size = some (seqObj "list" vs.toArray 0) := Heap.get?_push_size _ rfl
  refine wpAny_bind (wpAny_holding (wpAny_call_entry slot_list_sort ⟨_, at1, rfl⟩ entry_list_sort (list_sort_treeK strKind_oneLt at1 hU.keysOf (fun v₁ v₂ rest e => keyKind_strs (by rw [← e]; exact hU)) (by rw [vl]; exact h64) fun st' hp hs => ⟨_, rfl, ?_⟩) (args_list_sort _)))
  obtain ⟨ss', q1, q2, q3⟩ := sorted_out_str hU hp hs
  obtain ⟨c, hc⟩ := sortedHeap_at (vs := vs) (out := (arrOf st').map (·.2)) at1
  refine wpAny_pure ⟨_, rfl, hQ _ s1.heap.objs.size _ c ss' (fun b u e => ?_) g1 o1 hz hc q1 q3 ((q2.trans pU).trans pw)⟩
  have q := k1 b u e
  have hlt := Heap.lt_size q
  refine (sortedHeap_old (Nat.ne_of_lt hlt) (by rw [size_push']; exact Nat.lt_succ_of_lt hlt)).trans ?_
  exact Heap.get?_push_of_some _ q
end
/-- the set of the texts l at a, as its text was walked -/
def SetTx (P : Program) (w : World) (a : Addr) (l : List Str) : HO := .ext fun h => ∃ D, h.get? a = some (sObj "set" D) ∧ TxOk P w D l ∧ Ris D.2.2.place.toList ∧ D.2.2.led = (!w.params.followText "set-order")
section
variable {X : Cx}
/-- set(x) -/
def rSetT (P : Program) (w : World) : List V → Hp → VK → Prop := fun vs H Q => ∃ x : Str, vs = [.str x] ∧ x.cps.all (· < 128) = true ∧ x.cps.toList.Nodup ∧ x.cps.toList.length < 64 ∧ ∀ p, H p = none → Q (.ref p) (upd H p (SetTx P w p (x.cps.toList.reverse.map sing)))
theorem cr_setT (hc : X.calm = true) : CallR X (.type "set") (rSetT X.prog X.w) := by
  intro pins s σ H vs us Q I r h
  obtain ⟨x, rfl, asc, nd, len, q⟩ := h
  obtain ⟨u, rfl, r0⟩ : ∃ u, us = [u] ∧ RelV (.str x) u := by
    cases r with
    | cons a b => cases b; exact ⟨_, rfl, a⟩
  obtain ⟨t, rfl⟩ := r0
  refine call_setT (I.ok.hd hc) asc nd (Nat.lt_of_lt_of_le len (by unfold scanBound; decide)) fun h' tk D g1 g2 g3 g4 k => ?_
  have w1 : ∃ D, h'.get? s.heap.objs.size = some (sObj "set" D) ∧ TxOk X.prog X.w D (x.cps.toList.reverse.map sing) ∧ Ris D.2.2.place.toList ∧ D.2.2.led = (!X.w.params.followText "set-order") := ⟨D, g1, g2, g3, g4⟩
  have hn : H s.heap.objs.size = none := I.hok.fresh (Nat.le_refl _)
  exact ⟨.ref _, upd H s.heap.objs.size (SetTx X.prog X.w s.heap.objs.size (x.cps.toList.reverse.map sing)), I.laid k (Nat.le_refl _) ⟨w1, ⟨_, g1⟩, fun _ _ ⟨D, e, r⟩ st => ⟨D, st _ e, r⟩⟩, rfl, q _ hn⟩
/-- sorted(found) -/
def rSortedTx (P : Program) (w : World) : List V → Hp → VK → Prop := fun vs H Q => ∃ (a : Addr) (l : List Str), vs = [.ref a] ∧ H a = some (SetTx P w a l) ∧ l.Nodup ∧ l.length < 64 ∧ ∀ (ws : List Str) (p : Addr), sortedS ws = true → ws.Perm l → H p = none → Q (.ref p) (upd H p (.lst (ws.map V.str)))
theorem vals_of_strs : ∀ {us : List Value} {xs : List Str}, StrsAre us xs → Vals (xs.map V.str) us
  | _, _, .nil => .nil
  | _, _, .cons x t h => .cons ⟨t, rfl⟩ (vals_of_strs h)
theorem cr_sortedTx (hc : X.calm = true) : CallR X (.builtin "sorted") (rSortedTx X.prog X.w) := by
  intro pins s σ H vs us Q I r h
  obtain ⟨a, l, rfl, ha, nd, len, q⟩ := h
  obtain ⟨D, e1, e2, e3, e4⟩ := (I.hok a _ ha).1
  rw [Vals.ref1 r]
  refine sorted_setT e1 e2 nd e3 e4 (I.ok.hd hc) len fun s' p out c ws k g o hp at_ its srt perm => ?_
  have hn : H p = none := I.hok.fresh hp
  have size : (ws.map V.str).length ≤ sizeLine := by
    rw [List.length_map, perm.length_eq, sizeLine_eq]
    omega
  have J : Inv X pins σ (upd H p (.lst (ws.map V.str))) { s with heap := s'.heap, gens := s'.gens, drawn := s'.drawn, toks := s'.toks } := by
    refine I.call (ch := []) (Un.laid k hp hn) (I.hok.laid k hp ?_) ?_ ?_
    · exact ⟨size, out.toList, c, vals_of_strs its, at_⟩
    · rw [g]
      exact I.bare
    · exact fun _ z => absurd z List.not_mem_nil
  rw [GxR.sh_eta s s' o] at J
  exact ⟨.ref p, _, J, rfl, q ws p srt perm hn⟩
end
/-! ### one-sign texts, sorted -/
theorem le_unique : ∀ {a b : List Nat}, a.Perm b → a.Pairwise (· ≤ ·) → b.Pairwise (· ≤ ·) → a = b
  | [], b, p, _, _ => p.nil_eq
  | x :: a, [], p, _, _ => absurd p.symm.nil_eq (by simp)
  | x :: a, y :: b, p, ha, hb => by
    obtain ⟨a1, a2⟩ := List.pairwise_cons.mp ha
    obtain ⟨b1, b2⟩ := List.pairwise_cons.mp hb
    have xy : x = y := by
      have h1 : x ∈ y :: b := p.mem_iff.mp List.mem_cons_self
      have h2 : y ∈ x :: a := p.mem_iff.mpr List.mem_cons_self
      rcases List.mem_cons.mp h1 with e | e
      · exact e
      · rcases List.mem_cons.mp h2 with k | k
        · exact k.symm
        · exact Nat.le_antisymm (a1 y k) (b1 x e)
    subst xy
    rw [le_unique p.cons_inv a2 b2]
theorem rising_sing : ∀ (r : List Nat) (p : Nat), risingS (sing p) (r.map sing) = true → (∀ d ∈ r, p ≤ d) ∧ r.Pairwise (· ≤ ·)
  | [], p, _ => ⟨fun d h => absurd h List.not_mem_nil, .nil⟩
  | x :: r, p, h => by
    have h' : (!ltCps [x] [p] && risingS (sing x) (r.map sing)) = true := h
    rw [Bool.and_eq_true] at h'
    have px : p ≤ x := by
      have e := h'.1
      unfold ltCps at e
      by_cases g : p ≤ x
      · exact g
      · have lt : x < p := by omega
        simp [lt] at e
    obtain ⟨h1, h2⟩ := rising_sing r x h'.2
    refine ⟨fun d hd => ?_, List.pairwise_cons.mpr ⟨h1, h2⟩⟩
    rcases List.mem_cons.mp hd with e | e
    · rw [e]
      exact px
    · exact Nat.le_trans px (h1 d e)
theorem sorted_sing {l : List Nat} {ws : List Str} (s : sortedS ws = true) (p : ws.Perm (l.map sing)) : ∃ ds : List Nat, ws = ds.map sing ∧ ds.Perm l ∧ ds.Pairwise (· ≤ ·) := by
  have e : ws = (ws.map fun y : Str => y.cps.toList.headD 0).map sing := by
    rw [List.map_map]
    refine (List.map_id ws).symm.trans (List.map_congr_left fun y hy => ?_)
    obtain ⟨c, _, ec⟩ := List.mem_map.mp (p.mem_iff.mp hy)
    rw [← ec]
    rfl
  have q : (ws.map fun y : Str => y.cps.toList.headD 0).Perm l := by
    have := p.map fun y : Str => y.cps.toList.headD 0
    rw [List.map_map] at this
    have id' : (l.map ((fun y : Str => y.cps.toList.headD 0) ∘ sing)) = l := by
      refine (List.map_congr_left fun c _ => ?_).trans (List.map_id l)
      rfl
    rw [id'] at this
    exact this
  refine ⟨_, e, q, ?_⟩
  generalize (ws.map fun y : Str => y.cps.toList.headD 0) = ds at e
  rw [e] at s
  cases ds with
  | nil => exact .nil
  | cons x r =>
    obtain ⟨h1, h2⟩ := rising_sing r x s
    exact List.pairwise_cons.mpr ⟨h1, h2⟩
/-- ascending signs, sorted: the signs as they stand -/
theorem sorted_asc {l : List Nat} {ws : List Str} (a : l.Pairwise (· < ·)) (s : sortedS ws = true) (p : ws.Perm (l.reverse.map sing)) : ws = l.map sing := by
  obtain ⟨ds, e, q, h⟩ := sorted_sing s p
  rw [e, le_unique (q.trans l.reverse_perm) h (a.imp fun h => Nat.le_of_lt h)]
end SetQ

namespace SetQ
open PySem PySem.Spec PyProof.Rows L2 PySem.Froz
open Sem (wp)
/-! ### set(a) of any ascii text a, its signs now and then again -/
section
variable {P : Program} {w : World} {A : Around} {E : Value → Shared → Prop} {s : Shared}
/-- what is in the set is not put in again -/
theorem add_old {a : Addr} {T : String} {D : SD} {l : List Str} {k : Str} {u : Tok} {Q : Bool → Shared → Prop} (ho : s.heap.get? a = some (sObj T D)) (F : TxOk P w D l) (hk : k ∈ l) (hb : l.length < scanBound)
    (h : Q false s) : wpAny (model P w) A (setAddHashed a (.str k u) (hashStr w k)) Q E s := by
  obtain ⟨es, ep, t⟩ := D
  have hd : (sObj T (es, ep, t)).data = .set es ep t := rfl
  have hf : t.fits es.size = true := F.fit
  have hel : ElemsOf (strKind P w) es.toList := F.el
  have hsz : es.size = l.length := F.sz
  have hb0 : es.size < scanBound := by omega
  have hkey : (strKind P w).is k (.str k u) = true := is_str k u
  obtain ⟨j, hj⟩ : ∃ j, List.findIdx? (fun e => (strKind P w).is k e.2) es.toList = some j := by
    cases hr : List.findIdx? (fun e => (strKind P w).is k e.2) es.toList with
    | some j => exact ⟨j, rfl⟩
    | none =>
      obtain ⟨e, he, hp⟩ := (F.mem k).mp hk
      have := List.findIdx?_eq_none_iff.mp hr e he
      rw [this] at hp
      cases hp
  unfold setAddHashed setAddHashedIn
  refine wpAny_holding (wpAny_bind (wpAny_setState_of ho hd hf ?_))
  dsimp only
  rw [byScan_of rfl hb0 hel]
  simp only [↓reduceIte]
  unfold setAddByScan
  refine wpAny_bind ?_
  refine wpAny_bind (wpAny_rule ?_)
  refine wpAny_bind (wpAny_setScan_of (knd := strKind P w) (k := k) hkey ho hd hf hel ?_)
  rw [hj]
  dsimp only
  exact wpAny_pure (wpAny_pure h)
end
section
variable {P : Program} {w : World} {A : Around} {R : Result → Shared → Prop}
/-- the rest of a text's signs into the set, new ones and old ones -/
theorem code_update2 {a it : Addr} (hne : a ≠ it) {T : String} {x : Str} {u : Tok} (hh : A.handled = none) : ∀ (cs : List Nat) (i : Nat) (D : SD) (l : List Str) (s : Shared), x.cps.toList.drop i = cs →
    s.heap.get? a = some (sObj T D) → s.heap.get? it = some (itObj x u i) → TxOk P w D l → l.Nodup → Ris D.2.2.place.toList → l.length + cs.length < scanBound →
    (∀ (h' : Heap) (tk : Nat) (D' : SD) (l' : List Str), (∀ b o, b ≠ a → b ≠ it → s.heap.get? b = some o → h'.get? b = some o) → h'.get? a = some (sObj T D') → TxOk P w D' l' → l'.Nodup → Ris D'.2.2.place.toList → D'.2.2.led = D.2.2.led →
      (∀ k, k ∈ l' ↔ k ∈ l ∨ ∃ c ∈ cs, k = sing c) → l'.length ≤ l.length + cs.length → R (.ok (.ret .none)) { s with heap := h', toks := tk }) →
    codeAny (model P w) A (.builtin "set.update.loop" ⟨[.ref a, .ref it], []⟩) R s
  | [], i, D, l, s, hd, ha, hit, F, nd, ris, _, h => by
    refine codeAny_builtin PyProof.Rows.F.entry_set_update_loop ?_
    rw [Around.under_plainId PyProof.Rows.F.plain_set_update_loop _]
    show wpAny _ A.in1 (pyNext (.ref it) >>= _) _ _ s
    refine wpAny_bind (end_x (u := u) (by exact hh) hit (at_end hd) ?_)
    show wpAny _ A.in1 (ret Value.none) _ _ _
    refine wpAny_pure ?_
    refine h (endHeap s.heap it i) s.toks D l (fun b o ha' hi' e => ?_) ?_ F nd ris rfl (fun k => ⟨.inl, fun q => ?_⟩) (by simp)
    · unfold endHeap
      exact Heap.get?_push_of_some _ (Heap.get?_push_of_some _ (PySem.Heap.get?_update_of_ne _ (Ne.symm hi') e))
    · unfold endHeap
      exact Heap.get?_push_of_some _ (Heap.get?_push_of_some _ (PySem.Heap.get?_update_of_ne _ (Ne.symm hne) ha))
    · rcases q with q | ⟨c, hc, _⟩
      · exact q
      · cases hc
  | c :: r, i, D, l, s, hd, ha, hit, F, nd, ris, hb, h => by
    obtain ⟨hx, hd2⟩ := at_of hd
    have hb2 : l.length + (r.length + 1) < scanBound := hb
    refine codeAny_builtin PyProof.Rows.F.entry_set_update_loop ?_
    rw [Around.under_plainId PyProof.Rows.F.plain_set_update_loop _]
    show wpAny _ A.in1 (pyNext (.ref it) >>= _) _ _ s
    refine wpAny_bind (next_x (u := u) hit hx ?_)
    show wpAny _ A.in1 (holding [Value.str (sing c) s.toks] (setAdd a (.str (sing c) s.toks)) >>= _) _ _ _
    refine wpAny_bind (wpAny_holding ?_)
    unfold setAdd
    refine wpAny_holding ?_
    refine wpAny_bind ((strKind P w).pyHash (k := sing c) (is_str _ _) ?_)
    have ha1 : (s.heap.update it (fun _ => itObj x u (i + 1))).get? a = some (sObj T D) := PySem.Heap.get?_update_of_ne _ (Ne.symm hne) ha
    have hit1 : (s.heap.update it (fun _ => itObj x u (i + 1))).get? it = some (itObj x u (i + 1)) := get_upd _ hit rfl
    by_cases hcl : sing c ∈ l
    · refine add_old (l := l) (D := D) (s := { s with heap := s.heap.update it (fun _ => itObj x u (i + 1)), toks := s.toks + 1 + 1 }) ha1 F hcl (by omega) ?_
      refine wpAny_pure ⟨plainId_quiet PyProof.Rows.F.plain_set_update_loop _, code_update2 hne hh r (i + 1) _ l _ hd2 ha1 hit1 F nd ris (by omega) fun h' tk D' l' k1 k2 k3 k4 k5 k6 k7 k8 => ?_⟩
      refine h h' tk D' l' (fun b o n1 n2 e => k1 b o n1 n2 (PySem.Heap.get?_update_of_ne _ (Ne.symm n2) e)) k2 k3 k4 k5 k6 (fun k => ?_) (by simp only [List.length_cons]; omega)
      rw [k7]
      constructor
      · rintro (q | ⟨d, hd, e⟩)
        · exact .inl q
        · exact .inr ⟨d, List.mem_cons_of_mem _ hd, e⟩
      · rintro (q | ⟨d, hd, e⟩)
        · exact .inl q
        · rcases List.mem_cons.mp hd with q | q
          · subst q
            subst e
            exact .inl hcl
          · exact .inr ⟨d, q, e⟩
    · refine add_x (l := l) (D := D) (s := { s with heap := s.heap.update it (fun _ => itObj x u (i + 1)), toks := s.toks + 1 + 1 }) ha1 F hcl (by omega) ?_
      have ha2 : ((s.heap.update it (fun _ => itObj x u (i + 1))).update a (fun _ => sObj T (addTx (hashStr w (sing c)) (.str (sing c) s.toks) D))).get? a = some (sObj T (addTx (hashStr w (sing c)) (.str (sing c) s.toks) D)) := get_upd _ ha1 rfl
      have hit2 : ((s.heap.update it (fun _ => itObj x u (i + 1))).update a (fun _ => sObj T (addTx (hashStr w (sing c)) (.str (sing c) s.toks) D))).get? it = some (itObj x u (i + 1)) := PySem.Heap.get?_update_of_ne _ hne hit1
      have rr := addTx_ris (hashStr w (sing c)) (.str (sing c) s.toks) D ris
      refine wpAny_pure ⟨plainId_quiet PyProof.Rows.F.plain_set_update_loop _, code_update2 hne hh r (i + 1) _ (sing c :: l) _ hd2 ha2 hit2 (add_ok s.toks F) (List.nodup_cons.mpr ⟨hcl, nd⟩) rr.1 (by show l.length + 1 + r.length < scanBound; omega)
        fun h' tk D' l' k1 k2 k3 k4 k5 k6 k7 k8 => ?_⟩
      refine h h' tk D' l' (fun b o n1 n2 e => k1 b o n1 n2 (PySem.Heap.get?_update_of_ne _ (Ne.symm n1) (PySem.Heap.get?_update_of_ne _ (Ne.symm n2) e))) k2 k3 k4 k5 (k6.trans rr.2) (fun k => ?_) (by simp only [List.length_cons] at *; omega)
      rw [k7]
      constructor
      · rintro (q | ⟨d, hd, e⟩)
        · rcases List.mem_cons.mp q with q | q
          · exact .inr ⟨c, List.mem_cons_self .., q⟩
          · exact .inl q
        · exact .inr ⟨d, List.mem_cons_of_mem _ hd, e⟩
      · rintro (q | ⟨d, hd, e⟩)
        · exact .inl (List.mem_cons_of_mem _ q)
        · rcases List.mem_cons.mp hd with q | q
          · subst q
            subst e
            exact .inl (List.mem_cons_self ..)
          · exact .inr ⟨d, q, e⟩
end
section
variable {P : Program} {w : World} {A : Around} {E : Value → Shared → Prop} {s : Shared}
set_option maxHeartbeats 3200000 in
/-- set(x), x a text of ascii signs: its payload; what stood stands -/
theorem call_setT2 {x : Str} {u : Tok} {Q : Value → Shared → Prop} (hh : A.handled = none) (asc : x.cps.all (· < 128) = true) (hb : x.cps.toList.length < scanBound)
    (h : ∀ (h' : Heap) (tk : Nat) (D : SD) (l : List Str), h'.get? s.heap.objs.size = some (sObj "set" D) → TxOk P w D l → Ris D.2.2.place.toList → D.2.2.led = (!w.params.followText "set-order") → l.Nodup → (∀ k, k ∈ l ↔ ∃ c ∈ x.cps.toList, k = sing c) → l.length ≤ x.cps.toList.length →
      (∀ b o, s.heap.get? b = some o → h'.get? b = some o) → Q (.ref s.heap.objs.size) { s with heap := h', toks := tk }) :
    wpAny (model P w) A (call (.type "set") [.str x u]) Q E s := by
  obtain ⟨c, tl, hmro⟩ := F.called_set.mro
  have hmade := F.called_set.made
  have hsub := F.called_set.sub
  refine wpAny_call (codeAny_of_tree ?_)
  show wpAny _ _ (callAny (.type "set") _) _ _ _
  refine wpAny_pure ⟨Code.quiet_builtin _ (by decide +kernel), codeAny_builtin F.entry_type_call ?_⟩
  rw [Around.under_plain (weight_type_call_type "set" [.str x u] []) rfl]
  have n1 := F.called_set.notType
  have n2 := F.called_set.canCreate
  have n3 := F.typeCall_set_1 (.str x u)
  repeat (any_goals (first | assumption | wp_step))
  refine codeAny_mono (new_set1 (.str x u) (E := E) (Q₁ := fun obj s₁ => obj = .ref s.heap.objs.size ∧ s₁ = { s with heap := s.heap.push (setObj0 w) }) ⟨rfl, rfl⟩) fun r s₁ hr => ?_
  cases r with
  | error e => exact hr
  | ok fl =>
    cases fl with
    | ret obj =>
      obtain ⟨rfl, rfl⟩ := hr
      have at0 : (s.heap.push (setObj0 w)).get? s.heap.objs.size = some (setObj0 w) := Heap.get?_push_size _ rfl
      have ty0 : Shared.TypeIs { s with heap := s.heap.push (setObj0 w) } (.ref s.heap.objs.size) "set" := ⟨_, at0, rfl⟩
      have hli := F.called_set.init.lookup
      have hbi := F.called_set.init.bind (.ref s.heap.objs.size)
      repeat (any_goals (first | assumption | wp_step))
      refine codeAny_mono (codeAny_call_builtin (R := wants (fun r s₂ => r = .none ∧ ∃ h' tk D l, s₂ = { s with heap := h', toks := tk } ∧ h'.get? s.heap.objs.size = some (sObj "set" D) ∧ TxOk P w D l ∧ l.Nodup ∧ (∀ k, k ∈ l ↔ ∃ c ∈ x.cps.toList, k = sing c) ∧ l.length ≤ x.cps.toList.length ∧ Ris D.2.2.place.toList ∧
          D.2.2.led = (!w.params.followText "set-order") ∧ ∀ b o, s.heap.get? b = some o → h'.get? b = some o) E) F.called_set.init.plain F.entry_set_init (check_set_init_1 ty0 ?_)) fun r₂ s₂ hr₂ => ?_
      · have z1 := F.sub_str_set
        have z2 := F.sub_str_frozenset
        have z3 : (Value.type "str" == Value.type "dict") = false := by decide
        unfold Builtin.«set.__init__» noKeywords Builtin.Frozenset.updateFrom
        generalize hPI : pyIter = PI
        wp_walk
        subst hPI
        refine wpAny_pyIter_ascii asc ?_
        refine wpAny_bind (wpAny_runValue ?_)
        have lt0 : s.heap.objs.size < (s.heap.push (setObj0 w)).objs.size := by
          rw [Heap.size_push]
          exact Nat.lt_succ_self _
        have ne0 : s.heap.objs.size ≠ (s.heap.push (setObj0 w)).objs.size := Nat.ne_of_lt lt0
        have hA : A.in1.in1.handled = none := hh
        refine code_update2 (P := P) (a := s.heap.objs.size) (it := (s.heap.push (setObj0 w)).objs.size) ne0 (T := "set") (x := x) (u := u) hA x.cps.toList 0 (#[], 0, freshT w) [] _ rfl ?_ ?_ (TxOk.nil (by rfl)) List.nodup_nil List.Pairwise.nil ?_ ?_
        · exact Heap.get?_push_of_some _ at0
        · exact Heap.get?_push_size _ rfl
        · show 0 + x.cps.toList.length < scanBound
          omega
        · intro h' tk D' l' k1 k2 k3 k4 k5 k6 k7 k8
          show wpAny _ _ _ _ _ _
          refine wpAny_pure ?_
          show wpAny _ _ (ret Value.none) _ _ _
          refine wpAny_pure ⟨rfl, h', tk, D', l', rfl, k2, k3, k4, fun k => ?_, ?_, k5, k6, fun b o e => ?_⟩
          · rw [k7]
            exact ⟨fun q => q.elim (fun z => absurd z List.not_mem_nil) id, .inr⟩
          · have : ([] : List Str).length = 0 := rfl
            omega
          · have lb : b < s.heap.objs.size := Heap.lt_size e
            exact k1 b o (Nat.ne_of_lt lb) (Nat.ne_of_lt (Nat.lt_trans lb lt0)) (Heap.get?_push_of_some _ (Heap.get?_push_of_some _ e))
      · cases r₂ with
        | error e => exact hr₂
        | ok fl₂ =>
          cases fl₂ with
          | ret r =>
            obtain ⟨rfl, h', tk, D, l, rfl, g1, g2, g6, g7, g8, g3, g4, g5⟩ := hr₂
            repeat (any_goals (first | assumption | wp_step))
            exact h _ _ D l g1 g2 g3 g4 g6 g7 g8 g5
          | _ => exact hr₂.elim
    | _ => exact hr.elim
end
section
variable {X : Cx}
/-- set(x), x any ascii text -/
def rSetT2 (P : Program) (w : World) : List V → Hp → VK → Prop := fun vs H Q => ∃ x : Str, vs = [.str x] ∧ x.cps.all (· < 128) = true ∧ x.cps.toList.length < 64 ∧
  ∀ (p : Addr) (l : List Str), H p = none → l.Nodup → (∀ k, k ∈ l ↔ ∃ c ∈ x.cps.toList, k = sing c) → l.length ≤ x.cps.toList.length → Q (.ref p) (upd H p (SetTx P w p l))
theorem cr_setT2 (hc : X.calm = true) : CallR X (.type "set") (rSetT2 X.prog X.w) := by
  intro pins s σ H vs us Q I r h
  obtain ⟨x, rfl, asc, len, q⟩ := h
  obtain ⟨u, rfl, r0⟩ : ∃ u, us = [u] ∧ RelV (.str x) u := by
    cases r with
    | cons a b => cases b; exact ⟨_, rfl, a⟩
  obtain ⟨t, rfl⟩ := r0
  refine call_setT2 (I.ok.hd hc) asc (Nat.lt_of_lt_of_le len (by unfold scanBound; decide)) fun h' tk D l g1 g2 g3 g4 nd mem le k => ?_
  have w1 : ∃ D, h'.get? s.heap.objs.size = some (sObj "set" D) ∧ TxOk X.prog X.w D l ∧ Ris D.2.2.place.toList ∧ D.2.2.led = (!X.w.params.followText "set-order") := ⟨D, g1, g2, g3, g4⟩
  have hn : H s.heap.objs.size = none := I.hok.fresh (Nat.le_refl _)
  exact ⟨.ref _, upd H s.heap.objs.size (SetTx X.prog X.w s.heap.objs.size l), I.laid k (Nat.le_refl _) ⟨w1, ⟨_, g1⟩, fun _ _ ⟨D, e, r⟩ st => ⟨D, st _ e, r⟩⟩, rfl, q _ l hn nd mem le⟩
end
end SetQ

namespace Lb
open PySem PySem.Spec PyProof.Rows L2
/-! ### alphabets: list(x), set(x), sorted -/
def signV (c : Nat) : V := .str ⟨#[c]⟩
theorem vals_at : ∀ (xs : List V) (us : List Value), us.length = xs.length → (∀ (j : Nat) (u : Value), us[j]? = some u → ∃ x, xs[j]? = some x ∧ RelV x u) → Vals xs us
  | [], [], _, _ => .nil
  | x :: xs, u :: us, h, k => by
    obtain ⟨y, e, r⟩ := k 0 u rfl
    cases e
    exact .cons r (vals_at xs us (by simpa using h) fun j v hj => k (j + 1) v hj)
def rListT : List V → Hp → VK → Prop := fun vs H Q => ∃ x : Str, vs = [.str x] ∧ x.length ≤ sizeLine ∧ ∀ p, H p = none → Q (.ref p) (upd H p (.lst ((cs x).map signV)))
theorem cr_listT {X : Cx} (hc : X.calm = true) : CallR X (.type "list") rListT := by
  intro pins s σ H vs us Q I r h
  obtain ⟨x, rfl, len, q⟩ := h
  obtain ⟨u, rfl, t, rfl⟩ : ∃ u, us = [u] ∧ ∃ t, u = .str x t := by
    cases r with
    | cons a b =>
      cases b
      exact ⟨_, rfl, a⟩
  refine PySem.call_list_str (I.ok.hd hc) x t (fun h' tk acc c k e its => ?_)
  refine ⟨.ref s.heap.objs.size, upd H s.heap.objs.size (.lst ((cs x).map signV)), I.laid k (Nat.le_refl _) ⟨?_, acc.toList, c, ?_, e⟩, rfl, q _ (I.hok.fresh (Nat.le_refl _))⟩
  · rw [List.length_map, cs_len]
    exact len
  · refine vals_at _ _ ?_ fun j u hj => ?_
    · rw [List.length_map, cs_len, Array.length_toList]
      exact its.1
    · obtain ⟨cc, tt, hcc, rfl⟩ := its.2 j u (by rw [← Array.getElem?_toList]; exact hj)
      refine ⟨signV cc, ?_, tt, rfl⟩
      rw [List.getElem?_map, show (cs x)[j]? = some cc from (Array.getElem?_toList ..).trans hcc]
      rfl
end Lb
namespace Lb
open PySem PySem.Spec PyProof.Rows L2
/-! ### lists of signs, compared -/
def signD (c : Nat) : PyData := .str ⟨#[c]⟩
theorem dp_signs {K : PySem.W.Frag} {H : Hp} {a : Addr} {l : List Nat} (h : SqL K H a (l.map signV)) : Dp K H (.ref a) (.list (l.map signD)) := by
  refine .lst h ?_
  clear h
  induction l with
  | nil => exact .nil
  | cons c l ih => exact .cons (.str _) ih
theorem eqv_signs : ∀ l m : List Nat, PyData.eqvAll (l.map signD) (m.map signD) = decide (l = m)
  | [], [] => by simp [PyData.eqvAll]
  | [], _ :: _ => by simp [PyData.eqvAll]
  | _ :: _, [] => by simp [PyData.eqvAll]
  | c :: l, d :: m => by
    rw [List.map_cons, List.map_cons, PyData.eqvAll, eqv_signs l m]
    have e : PyData.eqv (signD c) (signD d) = decide (c = d) := by
      show ((⟨#[c]⟩ : Str) == ⟨#[d]⟩) = _
      by_cases h : c = d
      · subst h
        simp
      · rw [decide_eq_false h]
        refine beq_eq_false_iff_ne.mpr fun z => h ?_
        have := congrArg (fun y : Str => y.cps.toList) z
        simpa using this
    rw [e, ← Bool.decide_and]
    simp
theorem shaped_signs {l : List Nat} (h : ∀ c ∈ l, c < 128) : SeqAt.shaped (.list (l.map signD)) = true := by
  have lay : PyData.canLayAll0 (l.map signD) = true := by
    induction l with
    | nil => rfl
    | cons c l ih =>
      have hc := h c List.mem_cons_self
      have one : PyData.canLay0 (signD c) = true := by
        show (#[c] : Array Nat).all (· < 0x110000) = true
        simp
        omega
      rw [List.map_cons, PyData.canLayAll0, one, ih fun d m => h d (List.mem_cons_of_mem _ m)]
      rfl
  have dp : PyData.depthAll (l.map signD) = 0 := by
    clear lay h
    induction l with
    | nil => rfl
    | cons c l ih =>
      rw [List.map_cons, PyData.depthAll, ih]
      rfl
  show (PyData.canLayAll0 (l.map signD) && decide (PyData.depthAll (l.map signD) + 1 ≤ 64)) = true
  rw [lay, dp]
  rfl
theorem nodup_sings {l : List Nat} (h : l.Nodup) : (l.reverse.map PySem.Froz.sing).Nodup := by
  have r : l.reverse.Nodup := List.pairwise_reverse.mpr (h.imp fun e => Ne.symm e)
  refine List.pairwise_map.mpr (r.imp fun {a b} e z => e ?_)
  have := congrArg (fun y : Str => y.cps.toList) z
  have : [a] = [b] := this
  exact (List.cons.inj this).1
end Lb

namespace SetQ
open PySem PySem.Spec PyProof.Rows L2 PySem.Froz
open Sem (wp)
/-! ### set(xs), xs a list of texts, now and then the same one again -/
theorem strs_at : ∀ {vs : List Value} {xs : List Str}, StrsAre vs xs → ∀ (i : Nat) (v : Value), vs[i]? = some v → ∃ x t, xs[i]? = some x ∧ v = .str x t
  | _, _, .nil, i, v, h => by simp at h
  | _, _, .cons x t r, 0, v, h => ⟨x, t, rfl, (Option.some.inj h).symm⟩
  | _, _, .cons x t r, i + 1, v, h => strs_at r i v h
section
variable {P : Program} {w : World} {A : Around} {R : Result → Shared → Prop} {I : Addr} {fp wr : List Addr} {G : Array GenState → Array GenState → Prop} {n : Nat} {Pv : Nat → Value → Prop} {St : Nat → Shared → Prop}
theorem set_update_strs (W : WalksS P w A.in1 I fp wr G n Pv St) (S : Addr) (hSf : S ∉ fp) {T : String} (xs : List Str) (hn : n = xs.length) (hval : ∀ i v, Pv i v → ∃ x t, xs[i]? = some x ∧ v = .str x t) (hb : xs.length < scanBound) (led : Bool) :
    ∀ (k i : Nat) (s : Shared) (D : SD) (l : List Str), n - i = k → i ≤ n → St i s → s.heap.get? S = some (sObj T D) → TxOk P w D l → l.Nodup → Ris D.2.2.place.toList → D.2.2.led = led → (∀ y, y ∈ l ↔ y ∈ xs.take i) → l.length ≤ i →
      (∀ s' D l, Moved (S :: wr) G s s' → s'.heap.get? S = some (sObj T D) → TxOk P w D l → l.Nodup → Ris D.2.2.place.toList → D.2.2.led = led → (∀ y, y ∈ l ↔ y ∈ xs) → l.length ≤ xs.length → R (.ok (.ret .none)) s') →
      codeAny (model P w) A (.builtin "set.update.loop" ⟨[.ref S, .ref I], []⟩) R s := by
  have hSw : S ∉ wr := fun h => hSf (W.sub _ h)
  have hsub : ∀ b ∈ wr, b ∈ S :: wr := fun b hb => List.mem_cons_of_mem _ hb
  intro k
  induction k with
  | zero =>
    intro i s D l hk hi hst ho F nd ris hl mem len hR
    have hin : i = xs.length := by omega
    have hin' : i = n := by omega
    refine codeAny_builtin PyProof.Rows.F.entry_set_update_loop ?_
    rw [Around.under_plainId PyProof.Rows.F.plain_set_update_loop _]
    show wpAny _ A.in1 (pyNext (.ref I) >>= _) _ _ s
    refine wpAny_bind (W.done s _ _ (hin' ▸ hst) fun s' hm => ?_)
    show wpAny _ A.in1 (ret Value.none) _ _ s'
    refine wpAny_pure (hR s' D l (hm.mono hsub) (hm.heap S _ hSw ho) F nd ris hl (fun y => ?_) (by omega))
    rw [mem, hin, List.take_length]
  | succ k ih =>
    intro i s D l hk hi hst ho F nd ris hl mem len hR
    have hlt : i < n := by omega
    refine codeAny_builtin PyProof.Rows.F.entry_set_update_loop ?_
    rw [Around.under_plainId PyProof.Rows.F.plain_set_update_loop _]
    show wpAny _ A.in1 (pyNext (.ref I) >>= _) _ _ s
    refine wpAny_bind (W.item i s _ _ hlt hst fun v s' hP hst' hm => ?_)
    obtain ⟨x, t, hx, rfl⟩ := hval i v hP
    have ho' := hm.heap S _ hSw ho
    show wpAny _ A.in1 (holding [Value.str x t] (setAdd S (.str x t)) >>= _) _ _ s'
    refine wpAny_bind (wpAny_holding ?_)
    unfold setAdd
    refine wpAny_holding ?_
    refine wpAny_bind ((strKind P w).pyHash (k := x) (is_str _ _) ?_)
    have tk : xs.take (i + 1) = xs.take i ++ [x] := by
      rw [List.take_add_one, hx]
      rfl
    by_cases hcl : x ∈ l
    · refine add_old (l := l) (D := D) (s := { s' with toks := s'.toks + 1 }) ho' F hcl (by omega) ?_
      refine wpAny_pure ⟨plainId_quiet PyProof.Rows.F.plain_set_update_loop _, ih (i + 1) _ D l (by omega) hlt (W.frame _ s' s'.heap _ hst' (Nat.le_succ _) fun b _ o e => e) ho' F nd ris hl (fun y => ?_) (by omega) fun s'' D' l' hm'' => hR s'' D' l' (Moved.trans W.gtrans ((hm.mono hsub).then_heap (Nat.le_succ _) fun b o _ e => e) hm'')⟩
      rw [mem, tk, List.mem_append, List.mem_singleton]
      constructor
      · exact .inl
      · rintro (q | rfl)
        · exact q
        · exact (mem _).mp hcl
    · refine add_x (l := l) (D := D) (s := { s' with toks := s'.toks + 1 }) ho' F hcl (by omega) ?_
      have ho2 : (s'.heap.update S (fun _ => sObj T (addTx (hashStr w x) (.str x t) D))).get? S = some (sObj T (addTx (hashStr w x) (.str x t) D)) := get_upd _ ho' rfl
      have rr := addTx_ris (hashStr w x) (.str x t) D ris
      refine wpAny_pure ⟨plainId_quiet PyProof.Rows.F.plain_set_update_loop _, ih (i + 1) _ _ (x :: l) (by omega) hlt (W.frame _ s' _ _ hst' (Nat.le_succ _) fun b hb o e => PySem.Heap.get?_update_of_ne _ (fun z => hSf (by rw [z]; exact hb)) e) ho2 (add_ok t F) (List.nodup_cons.mpr ⟨hcl, nd⟩) rr.1 (rr.2.trans hl) (fun y => ?_)
        (by show l.length + 1 ≤ i + 1; omega) fun s'' D' l' hm'' => hR s'' D' l' (Moved.trans W.gtrans ((hm.mono hsub).then_heap (Nat.le_succ _) fun b o hb e => PySem.Heap.get?_update_of_ne _ (fun z => hb (by rw [z]; exact List.mem_cons_self)) e) hm'')⟩
      rw [tk, List.mem_append, List.mem_singleton, List.mem_cons, mem]
      exact Or.comm
end
section
variable {P : Program} {w : World} {A : Around} {E : Value → Shared → Prop} {s : Shared}
set_option maxHeartbeats 3200000 in
/-- set(xs): its payload; what stood stands -/
theorem call_setL {l : Addr} {items : Array Value} {xs : List Str} {Q : Value → Shared → Prop} (hh : A.handled = none) (hl : s.heap.IsList l items) (hi : StrsAre items.toList xs) (hb : xs.length < scanBound)
    (h : ∀ (h' : Heap) (tk : Nat) (D : SD) (m : List Str), h'.get? s.heap.objs.size = some (sObj "set" D) → TxOk P w D m → Ris D.2.2.place.toList → D.2.2.led = (!w.params.followText "set-order") → m.Nodup → (∀ y, y ∈ m ↔ y ∈ xs) → m.length ≤ xs.length →
      (∀ b o, s.heap.get? b = some o → h'.get? b = some o) → Q (.ref s.heap.objs.size) { s with heap := h', toks := tk }) :
    wpAny (model P w) A (call (.type "set") [.ref l]) Q E s := by
  have hsz : items.size = xs.length := by
    rw [← Array.length_toList]
    exact hi.length
  obtain ⟨c, tl, hmro⟩ := F.called_set.mro
  have hmade := F.called_set.made
  have hsub := F.called_set.sub
  refine wpAny_call (codeAny_of_tree ?_)
  show wpAny _ _ (callAny (.type "set") _) _ _ _
  refine wpAny_pure ⟨Code.quiet_builtin _ (by decide +kernel), codeAny_builtin F.entry_type_call ?_⟩
  rw [Around.under_plain (weight_type_call_type "set" [.ref l] []) rfl]
  have n1 := F.called_set.notType
  have n2 := F.called_set.canCreate
  have n3 := F.typeCall_set_1 (.ref l)
  repeat (any_goals (first | assumption | wp_step))
  refine codeAny_mono (new_set1 (.ref l) (E := E) (Q₁ := fun obj s₁ => obj = .ref s.heap.objs.size ∧ s₁ = { s with heap := s.heap.push (setObj0 w) }) ⟨rfl, rfl⟩) fun r s₁ hr => ?_
  cases r with
  | error e => exact hr
  | ok fl =>
    cases fl with
    | ret obj =>
      obtain ⟨rfl, rfl⟩ := hr
      have at0 : (s.heap.push (setObj0 w)).get? s.heap.objs.size = some (setObj0 w) := Heap.get?_push_size _ rfl
      have ty0 : Shared.TypeIs { s with heap := s.heap.push (setObj0 w) } (.ref s.heap.objs.size) "set" := ⟨_, at0, rfl⟩
      have hli := F.called_set.init.lookup
      have hbi := F.called_set.init.bind (.ref s.heap.objs.size)
      repeat (any_goals (first | assumption | wp_step))
      refine codeAny_mono (codeAny_call_builtin (R := wants (fun r s₂ => r = .none ∧ ∃ h' tk D m, s₂ = { s with heap := h', toks := tk } ∧ h'.get? s.heap.objs.size = some (sObj "set" D) ∧ TxOk P w D m ∧ m.Nodup ∧ (∀ y, y ∈ m ↔ y ∈ xs) ∧ m.length ≤ xs.length ∧ Ris D.2.2.place.toList ∧
          D.2.2.led = (!w.params.followText "set-order") ∧ ∀ b o, s.heap.get? b = some o → h'.get? b = some o) E) F.called_set.init.plain F.entry_set_init (check_set_init_1 ty0 ?_)) fun r₂ s₂ hr₂ => ?_
      · obtain ⟨ol, hol, hcl, nl, hdl⟩ := hl
        obtain ⟨ocls, odict, odata, oslots⟩ := ol
        simp only at hcl hdl
        subst hcl
        subst hdl
        have hol' : (s.heap.push (setObj0 w)).get? l = some { cls := .type "list", dict := odict, data := .seq items nl, slots := oslots } := Heap.get?_push_of_some _ hol
        have hsls := F.sub_list_set
        have hslf := F.sub_list_frozenset
        have hne : (Value.type "list" == Value.type "dict") = false := by decide
        have hl1 : (s.heap.push (setObj0 w)).IsList l items := ⟨_, hol', rfl, nl, rfl⟩
        unfold Builtin.«set.__init__» noKeywords Builtin.Frozenset.updateFrom
        generalize hPI : pyIter = PI
        wp_walk
        subst hPI
        refine wpAny_pyIter_list hl1 ?_
        refine wpAny_bind (wpAny_runValue ?_)
        have hlS : l < s.heap.objs.size := Heap.lt_size hol
        have hh3 : A.in1.in1.in1.handled = none := by simp [hh]
        have hneI : l ≠ (s.heap.push (setObj0 w)).objs.size := by
          rw [Heap.size_push]
          exact Nat.ne_of_lt (Nat.lt_succ_of_lt hlS)
        have hSf : s.heap.objs.size ∉ [(s.heap.push (setObj0 w)).objs.size, l] := by
          rw [Heap.size_push]
          simp only [List.mem_cons, List.mem_singleton, List.not_mem_nil, or_false, not_or]
          exact ⟨Nat.ne_of_lt (Nat.lt_succ_self _), Nat.ne_of_gt hlS⟩
        have hval : ∀ (i : Nat) (v : Value), items[i]? = some v → ∃ x t, xs[i]? = some x ∧ v = .str x t := fun i v hv => strs_at hi i v (by rw [Array.getElem?_toList]; exact hv)
        refine set_update_strs ((Walks.list hh3 _ l hneI items).toS) s.heap.objs.size hSf (T := "set") xs hsz hval hb (!w.params.followText "set-order") (items.size - 0) 0 _ (#[], 0, freshT w) [] (by omega) (Nat.zero_le _)
          ⟨⟨_, Heap.get?_push_size _ rfl, rfl, rfl⟩, (hl1.push _)⟩ (Heap.get?_push_of_some _ at0) (TxOk.nil (by rfl)) List.nodup_nil List.Pairwise.nil rfl (fun y => by simp) (Nat.le_refl _) ?_
        intro s' D m hm hS' F' nd' ris' led' mem' len'
        obtain ⟨h', g', d', tk', os'⟩ := s'
        have eg : g' = s.gens := hm.gens
        have ed : d' = s.drawn := hm.drawn
        have eo : os' = s.os := hm.os
        subst eg
        subst ed
        subst eo
        show wpAny _ _ _ _ _ _
        refine wpAny_pure ?_
        show wpAny _ _ (ret Value.none) _ _ _
        refine wpAny_pure ⟨rfl, h', tk', D, m, rfl, hS', F', nd', mem', len', ris', led', fun b o e => ?_⟩
        have hlt := Heap.lt_size e
        have hb1 : b ≠ s.heap.objs.size := Nat.ne_of_lt hlt
        have hb2 : b ≠ (s.heap.push (setObj0 w)).objs.size := by
          rw [Heap.size_push]
          exact Nat.ne_of_lt (Nat.lt_succ_of_lt hlt)
        exact hm.heap b o (by simp only [List.mem_cons, List.mem_singleton, List.not_mem_nil, or_false, not_or]; exact ⟨hb1, hb2⟩) (Heap.get?_push_of_some _ (Heap.get?_push_of_some _ e))
      · cases r₂ with
        | error e => exact hr₂
        | ok fl₂ =>
          cases fl₂ with
          | ret r =>
            obtain ⟨rfl, h', tk, D, m, rfl, g1, g2, g6, g7, g8, g3, g4, g5⟩ := hr₂
            repeat (any_goals (first | assumption | wp_step))
            exact h _ _ D m g1 g2 g3 g4 g6 g7 g8 g5
          | _ => exact hr₂.elim
    | _ => exact hr.elim
end
section
variable {X : Cx}
def rSetL (P : Program) (w : World) (K : PySem.W.Frag) : List V → Hp → VK → Prop := fun vs H Q => ∃ (a : Addr) (xs : List Str), vs = [.ref a] ∧ SqL K H a (xs.map V.str) ∧ xs.length < 64 ∧
  ∀ (p : Addr) (m : List Str), H p = none → m.Nodup → (∀ y, y ∈ m ↔ y ∈ xs) → m.length ≤ xs.length → Q (.ref p) (upd H p (SetTx P w p m))
theorem cr_setL (hc : X.calm = true) : CallR X (.type "set") (rSetL X.prog X.w X.K) := by
  intro pins s σ H vs us Q I r h
  obtain ⟨a, xs, rfl, hs, len, q⟩ := h
  obtain rfl := Vals.ref1 r
  obtain ⟨its, rv, hl, _⟩ := I.list hs
  refine call_setL (I.ok.hd hc) hl.isList (by exact rv.strs) (Nat.lt_of_lt_of_le len (by unfold scanBound; decide)) fun h' tk D m g1 g2 g3 g4 nd mem le k => ?_
  have w1 : ∃ D, h'.get? s.heap.objs.size = some (sObj "set" D) ∧ TxOk X.prog X.w D m ∧ Ris D.2.2.place.toList ∧ D.2.2.led = (!X.w.params.followText "set-order") := ⟨D, g1, g2, g3, g4⟩
  have hn : H s.heap.objs.size = none := I.hok.fresh (Nat.le_refl _)
  exact ⟨.ref _, upd H s.heap.objs.size (SetTx X.prog X.w s.heap.objs.size m), I.laid k (Nat.le_refl _) ⟨w1, ⟨_, g1⟩, fun _ _ ⟨D, e, r⟩ st => ⟨D, st _ e, r⟩⟩, rfl, q _ m hn nd mem le⟩
end
end SetQ

namespace Lb
open PySem
theorem lt_list : ∀ (a b : List Nat), a < b ∨ a = b ∨ b < a
  | [], [] => .inr (.inl rfl)
  | [], _ :: _ => .inl (by simp)
  | _ :: _, [] => .inr (.inr (by simp))
  | c :: a, d :: b => by
    rcases Nat.lt_trichotomy c d with q | q | q
    · exact .inl (List.cons_lt_cons_iff.mpr (.inl q))
    · subst q
      rcases lt_list a b with k | k | k
      · exact .inl (List.cons_lt_cons_iff.mpr (.inr ⟨rfl, k⟩))
      · exact .inr (.inl (by rw [k]))
      · exact .inr (.inr (List.cons_lt_cons_iff.mpr (.inr ⟨rfl, k⟩)))
    · exact .inr (.inr (List.cons_lt_cons_iff.mpr (.inl q)))
theorem lt_or {x y : Str} : x.cps.toList < y.cps.toList ∨ x = y ∨ y.cps.toList < x.cps.toList := by
  rcases lt_list x.cps.toList y.cps.toList with h | h | h
  · exact .inl h
  · exact .inr (.inl (Str.ext' (Array.toList_inj.mp h)))
  · exact .inr (.inr h)
end Lb
namespace SetQ
theorem both {α : Type} {a b : α} : ∀ {l : List α}, l.Nodup → [a, b].Sublist l → [b, a].Sublist l → False
  | [], _, h, _ => by cases h
  | c :: l, nd, h, k => by
    obtain ⟨n1, n2⟩ := List.nodup_cons.mp nd
    cases h with
    | cons _ h =>
      cases k with
      | cons _ k => exact both n2 h k
      | cons_cons _ k => exact n1 (h.subset (List.mem_cons_of_mem _ List.mem_cons_self))
    | cons_cons _ h =>
      cases k with
      | cons _ k => exact n1 (k.subset (List.mem_cons_of_mem _ List.mem_cons_self))
      | cons_cons _ k => exact n1 (h.subset List.mem_cons_self)
end SetQ
namespace SetQ
open PySem PySem.Spec PyProof.Rows L2
/-! ### sorted(xs, key=len), xs a list of texts -/
def lenLe (x y : Str) : Bool := decide (x.length ≤ y.length)
def lenSort (xs : List Str) : List Str := xs.mergeSort lenLe
/-- the word order -/
def Bef (x y : Str) : Prop := x.length < y.length ∨ (x.length = y.length ∧ x.cps.toList < y.cps.toList)
theorem lenSort_perm (xs : List Str) : (lenSort xs).Perm xs := List.mergeSort_perm xs lenLe
theorem sortedS_pair : ∀ {ws : List Str}, sortedS ws = true → ws.Pairwise fun x y => ¬ y.cps.toList < x.cps.toList
  | [], _ => .nil
  | [x], _ => List.pairwise_singleton ..
  | x :: y :: r, h => by
    have h' : (!ltCps y.cps.toList x.cps.toList && risingS y r) = true := h
    rw [Bool.and_eq_true] at h'
    have ih := sortedS_pair (ws := y :: r) h'.2
    have yx : ¬ y.cps.toList < x.cps.toList := by
      have e := h'.1
      rw [ltCps_eq] at e
      intro z
      rw [decide_eq_true z] at e
      cases e
    refine List.pairwise_cons.mpr ⟨fun z hz => ?_, ih⟩
    rcases List.mem_cons.mp hz with rfl | hz
    · exact yx
    · have yz := (List.pairwise_cons.mp ih).1 z hz
      exact fun q => yx (List.lt_of_le_of_lt (List.not_lt.mp yz) q)
theorem lenSort_bef {ws : List Str} (s : sortedS ws = true) (nd : ws.Nodup) : (lenSort ws).Pairwise Bef := by
  have tr : ∀ a b c : Str, lenLe a b = true → lenLe b c = true → lenLe a c = true := fun a b c h1 h2 => decide_eq_true (Nat.le_trans (of_decide_eq_true h1) (of_decide_eq_true h2))
  have tot : ∀ a b : Str, (lenLe a b || lenLe b a) = true := fun a b => by
    rw [Bool.or_eq_true]
    rcases Nat.le_total a.length b.length with h | h
    · exact .inl (decide_eq_true h)
    · exact .inr (decide_eq_true h)
  have by_len := List.pairwise_mergeSort (le := lenLe) tr tot ws
  have nd' : (lenSort ws).Nodup := (lenSort_perm ws).nodup_iff.mpr nd
  have srt := sortedS_pair s
  refine List.pairwise_iff_forall_sublist.mpr fun {a b} hab => ?_
  have le : a.length ≤ b.length := of_decide_eq_true (List.pairwise_iff_forall_sublist.mp by_len hab)
  rcases Nat.lt_or_ge a.length b.length with h | h
  · exact .inl h
  refine .inr ⟨Nat.le_antisymm le h, ?_⟩
  have ne : a ≠ b := List.pairwise_iff_forall_sublist.mp nd' hab
  have ma : a ∈ ws := (lenSort_perm ws).mem_iff.mp (hab.subset List.mem_cons_self)
  have mb : b ∈ ws := (lenSort_perm ws).mem_iff.mp (hab.subset (List.mem_cons_of_mem _ List.mem_cons_self))
  have ln : ∀ {x y : Str}, ¬ y.cps.toList < x.cps.toList → x ≠ y → x.cps.toList < y.cps.toList := fun {x y} h ne => by
    rcases Lb.lt_or (x := x) (y := y) with q | q | q
    · exact q
    · exact absurd q ne
    · exact absurd q h
  have two : ∀ (l : List Str), a ∈ l → b ∈ l → [a, b].Sublist l ∨ [b, a].Sublist l := by
    intro l
    induction l with
    | nil => intro h _; cases h
    | cons c l ih =>
      intro h1 h2
      rcases List.mem_cons.mp h1 with e1 | h1
      · rcases List.mem_cons.mp h2 with e2 | h2
        · exact absurd (e1.trans e2.symm) ne
        · rw [← e1]
          exact .inl (List.Sublist.cons_cons a (List.singleton_sublist.mpr h2))
      · rcases List.mem_cons.mp h2 with e2 | h2
        · rw [← e2]
          exact .inr (List.Sublist.cons_cons b (List.singleton_sublist.mpr h1))
        · exact (ih h1 h2).imp (·.cons _) (·.cons _)
  rcases two ws ma mb with q | q
  · exact ln (List.pairwise_iff_forall_sublist.mp srt q) ne
  · have back : [b, a].Sublist (lenSort ws) := List.pair_sublist_mergeSort tr tot (decide_eq_true h) q
    -- both ways: then one of the two stands twice
    exact (both nd' hab back).elim
def rSortLen (K : PySem.W.Frag) : List V → Hp → VK → Prop := fun vs H Q => ∃ (a : Addr) (xs : List Str), vs = [V.ref a] ∧ SqL K H a (xs.map V.str) ∧ (∀ x ∈ xs, x.length ≤ sizeLine) ∧ ∀ p, H p = none → Q (.ref p) (upd H p (.lst ((lenSort xs).map V.str)))
theorem each_of_strs : ∀ {us : List Value} {xs : List Str}, StrsAre us xs → PySem.W.EachIs (fun v x => ∃ t, v = Value.str x t) us xs
  | _, _, .nil => .nil
  | _, _, .cons x t h => .cons ⟨t, rfl⟩ (each_of_strs h)
theorem vals_of_each : ∀ {us : List Value} {xs : List Str}, PySem.W.EachIs (fun v x => ∃ t, v = Value.str x t) us xs → Vals (xs.map V.str) us
  | _, _, .nil => .nil
  | _, _, .cons h r => .cons h (vals_of_each r)
section
variable {X : Cx}
theorem run_sortLen {pins : List (Addr × Obj)} {s : Shared} {σ : L2.St} {H : Hp} {a : Addr} {xs : List Str} {Q : VK} (hu : X.A.units + 64 < cLine) (I : Inv X pins σ H s) (hs : SqL X.K H a (xs.map V.str)) (hx : ∀ x ∈ xs, x.length ≤ sizeLine)
    (q : ∀ p, H p = none → Q (.ref p) (upd H p (.lst ((lenSort xs).map V.str)))) : wpAny (model X.prog X.w) X.A (call (.builtin "sorted") [.ref a] [(Str.ofString "key", .builtin "len")]) (EP X pins σ Q) X.xe s := by
  obtain ⟨its, rv, hl, hz⟩ := I.list hs
  have hz' : xs.length ≤ sizeLine := by
    rw [List.length_map] at hz
    exact hz
  refine PySem.W.sorted_key_data (b := false) (R := fun v x => ∃ t, v = Value.str x t) (bs := xs) (fun x : Str => PyData.int ((x.length : Nat) : Int)) hl.isList (each_of_strs rv.strs) (PySem.W.AllAlike.of fun _ _ => by simp [PySem.W.alike]) (.inr fun d hd => ?_) hz' (fun x _ => ?_) (ksk_s1 _ _) (fun _ => ksk_l1 _ _) (fun _ => ksk_t4 _ _)
    (fun v x ⟨t, e⟩ m h tk _ => ?_) fun out c h' tk keep fresh at_ len each => ?_
  · obtain ⟨x, _, rfl⟩ := List.mem_map.mp hd
    exact ⟨fun z => (by cases z), fun ys z => (by cases z)⟩
  · show X.A.units + 2 + PyData.depth (.int _) < cLine
    have : PyData.depth (.int ((x.length : Nat) : Int)) = 0 := by simp [PyData.depth]
    omega
  · subst e
    have := hx x m
    have b := line63
    exact len_str (by omega) ⟨h, _, rfl, fun _ _ e => e, .int _ _⟩
  · rw [PySem.W.dataLe_int] at each
    have e : xs.mergeSort (fun a b : Str => decide (((a.length : Nat) : Int) ≤ ((b.length : Nat) : Int))) = lenSort xs := by
      unfold lenSort
      congr 1
      funext a b
      unfold lenLe
      simp only [Int.ofNat_le]
    rw [e] at each
    refine ⟨.ref (s.heap.objs.size + 1), upd H (s.heap.objs.size + 1) (.lst ((lenSort xs).map V.str)), I.laid keep (Nat.le_succ _) ⟨?_, out, c, vals_of_each each, at_⟩, rfl, q _ (I.hok.fresh (Nat.le_succ _))⟩
    rw [List.length_map, (lenSort_perm xs).length_eq]
    exact hz'
def tSortLen (K : PySem.W.Frag) (t : TA) : TE := fun σ H Q => t σ H fun vs H1 => rSortLen K vs H1 Q
theorem pe_sortLen {e : Expr} {t : TA} {p p2 kp pos : Pos} (hu : X.A.units + 64 < cLine) (hg : Gl X "sorted") (hm : X.mg "sorted" = none) (hgl : Gl X "len") (hml : X.mg "len" = none) (he : PA X [e] t)
    (hst : backTo pos (starEach [e] X.env) = (false, eval e X.env) :: backTo pos (starEach [] X.env) := by rfl) (hpl : (backTo pos (starEach [e] X.env)).any (·.1) = false := by rfl) :
    PE X (.Call (.Name (Str.ofString "sorted") p) [e] [⟨some (Str.ofString "key"), .Name (Str.ofString "len") p2, kp⟩] pos) (tSortLen X.K t) := by
  refine ⟨fun pins s σ H Q I h => ?_⟩
  refine wpAny_Call_Name_kw (ld_blt I hg hm (show bootBuiltins (Str.ofString "sorted") = some (.builtin "sorted") by decide +kernel) ?_ (by decide) (by decide))
  refine PyProof.Rows.callWith_kw (thn (he.run pos pins s σ H _ I h) fun us s1 ⟨vs, H1, I1, r1, q1⟩ => ?_) hst hpl (by rfl) (by rfl)
  show wpAny _ _ (evalAll ((do let v ← eval (.Name (Str.ofString "len") p2) X.env; standAt pos; pure v) :: [])) _ _ s1
  refine wpAny_evalAll_cons (wpAny_bind (ld_blt I1 hgl hml PySem.boot_len (wpAny_bind (wpAny_standAt (wpAny_pure (wpAny_evalAll_nil ?_)))) (by decide) (by decide)))
  obtain ⟨a, xs, rfl, hs, hx, q⟩ := q1
  obtain rfl := Vals.ref1 r1
  exact run_sortLen hu I1 hs hx q
end
end SetQ

namespace MinQ
open PySem PySem.Spec PyProof.Rows L2
/-! ### min(xs, key=f, default=None), f(x) the pair (len(x), x), xs a list of texts -/
def kLt (x y : Str) : Bool := if x.length = y.length then decide (x.cps.toList < y.cps.toList) else decide (x.length < y.length)
def btS (xs : List Str) (i j : Nat) : Bool := match xs[i]?, xs[j]? with
  | some x, some y => kLt x y
  | _, _ => false
theorem btS_at {xs : List Str} {i j : Nat} {x y : Str} (h : xs[i]? = some x) (k : xs[j]? = some y) : btS xs i j = kLt x y := by
  unfold btS
  rw [h, k]
/-- what is wanted of the key -/
def spKey : Sp := fun vs _ Q _ => ∃ x : Str, vs = [.str x] ∧ x.length ≤ 1000000 ∧ ∀ (p : Addr) (H' : Hp), H' p = some (.tup [.int ((x.length : Nat) : Int), .str x]) → Q (.ref p) H'
/-- all but the frames' own slots stands -/
structure KeepF (fs : List Addr) (s0 s : Shared) : Prop where
  keep : ∀ b o, s0.heap.get? b = some o → b ∉ fs → s.heap.get? b = some o
  slot : ∀ b o, s0.heap.get? b = some o → b ∈ fs → ∃ sl, s.heap.get? b = some { o with slots := sl }
  os : s.os = s0.os
  bare : AllBare s.gens
theorem KeepF.trans {fs : List Addr} {s0 s1 s2 : Shared} (h : KeepF fs s0 s1) (k : KeepF fs s1 s2) : KeepF fs s0 s2 where
  keep := fun b o e n => k.keep b o (h.keep b o e n) n
  slot := fun b o e m => by
    obtain ⟨sl, q⟩ := h.slot b o e m
    obtain ⟨sl2, q2⟩ := k.slot b _ q m
    exact ⟨sl2, q2⟩
  os := k.os.trans h.os
  bare := k.bare
theorem KeepF.of_un {fs : List Addr} {H' : Hp} {s s' : Shared} (u : Un fs [] (fun _ => none) H' s.heap s'.heap) (o : s'.os = s.os) (b : AllBare s'.gens) : KeepF fs s s' :=
  ⟨fun b o e n => u.keep b o e rfl n List.not_mem_nil, fun b o e m => u.slot b o e rfl m List.not_mem_nil, o, b⟩
section
variable {X : Cx} {pins : List (Addr × Obj)} {s s' s0 : Shared} {σ : L2.St} {H : Hp}
theorem KeepF.inv (I : Inv X pins σ H s) (k : KeepF (frs X.stack) s s') : Inv X pins σ H s' := by
  refine I.call' (ch := []) k.os ⟨fun b o e n hb _ => k.keep b o e hb, fun b o e n hb _ => k.slot b o e hb, fun b o e n _ => n, fun b o e _ => ?_, fun b xs e => e, fun b o u e => e, fun b ps e => ⟨#[], by rw [Array.append_empty]; exact e⟩⟩ (fun a o e => ?_) k.bare (fun b z => absurd z List.not_mem_nil)
  · by_cases hb : b ∈ frs X.stack
    · obtain ⟨sl, q⟩ := k.slot b o e hb
      exact ⟨_, q⟩
    · exact ⟨_, k.keep b o e hb⟩
  · refine (I.hok a o e).stay (fun b u hb q => k.keep b u q fun z => ?_) (fun _ q => q) fun _ _ q => q
    have free := I.stkFree b z
    rcases hb with hb | hb
    · rw [hb, e] at free
      cases free
    · rw [hb] at free
      cases free
theorem KeepF.env {A : Around} (I : Inv X pins σ H s0) (k : KeepF (frs X.stack) s0 s) (hsz : s0.heap.objs.size ≤ s.heap.objs.size) (hf : A.frames = some X.stack) : Env0 X.prog X.w X.K X.mg X.base A X.stack s (fun _ => none) where
  frames := hf
  mod := I.ok.mod
  bs := fun b o e => ⟨k.keep b o (I.bk b o e) fun z => (by
    have := (I.stack.mem z).1
    rw [e] at this
    cases this), rfl⟩
  bsz := Nat.le_trans I.ok.bsz (Nat.le_trans I.sz hsz)
  funs := I.stack.of_keeps fun b o e _ => by
    by_cases hb : b ∈ frs X.stack
    · obtain ⟨sl, q⟩ := k.slot b o e hb
      exact ⟨_, q, rfl⟩
    · exact ⟨_, k.keep b o e hb, rfl⟩
  frf := fun _ _ => rfl
  hok := fun a o e => nomatch e
  bare := k.bare
/-- the key's pair at t -/
def KeyAt (h : Heap) (t : Addr) (x : Str) : Prop := ∃ u v : Tok, IsTup h t #[.int ((x.length : Nat) : Int) u, .str x v]
def VKey (fs : List Addr) (n : Nat) (xs : List Str) (i : Nat) (ki : Value) (s : Shared) : Prop := ∃ (t : Addr) (x : Str), ki = .ref t ∧ xs[i]? = some x ∧ t ∉ [n + 1, n] ∧ t ∉ fs ∧ KeyAt s.heap t x
theorem key_run {k : Nat} {f : Addr} {fd : FuncData} {its : Array Value} {xs : List Str} {ax : Addr} (F : FnOk X.prog X.w X.K X.mg X.base CX0 k f fd ["word"] spKey) (hb : Binds X.K fd ["word"] []) (hr : Room k X.A.in1) (hu : X.A.in1.units < cLine)
    (I : Inv X pins σ H s0) (hi : StrsAre its.toList xs) (hx : ∀ x ∈ xs, x.length ≤ 1000000) (hax : ax ∉ frs X.stack) :
    KeyRun X.prog X.w X.A.in1 (.ref f) .Lt (s0.heap.objs.size + 1) [s0.heap.objs.size] (fun a b => b = a) its.size (fun i v => its[i]? = some v) (fun i s => s.heap.IsListIter s0.heap.objs.size ax i ∧ s.heap.IsList ax its) (KeepF (frs X.stack) s0)
      (VKey (frs X.stack) s0.heap.objs.size xs) (btS xs) := by
  have fsOld : ∀ b ∈ frs X.stack, b < s0.heap.objs.size := fun b hb => by
    obtain ⟨_, o, ho, _⟩ := I.stack.mem hb
    exact Heap.lt_size ho
  refine ⟨fun s s' J m => ⟨fun b o e n => ?_, fun b o e hb => ?_, m.os.trans J.os, ?_⟩, fun i ki s s' ⟨t, x, e, ex, n1, n2, u, v, ob, ho, r⟩ m => ⟨t, x, e, ex, n1, n2, u, v, ob, m.heap t ob n1 ho, r⟩, fun i v s o Q E hi' hP J hst hS q => ?_, fun i j ki kj s Q E J hVi hVj q => ?_⟩
  · have lt := Heap.lt_size e
    exact m.heap b o (by simp only [List.mem_cons, List.not_mem_nil, or_false, not_or]; exact ⟨Nat.ne_of_lt (Nat.lt_succ_of_lt lt), Nat.ne_of_lt lt⟩) (J.keep b o e n)
  · have lt := Heap.lt_size e
    obtain ⟨sl, q⟩ := J.slot b o e hb
    exact ⟨sl, m.heap b _ (by simp only [List.mem_cons, List.not_mem_nil, or_false, not_or]; exact ⟨Nat.ne_of_lt (Nat.lt_succ_of_lt lt), Nat.ne_of_lt lt⟩) q⟩
  · have eg : s'.gens = s.gens := m.gens
    rw [eg]
    exact J.bare
  · obtain ⟨x, t0, ex, ev⟩ := SetQ.strs_at hi i v (by rw [Array.getElem?_toList]; exact hP)
    subst ev
    have hsz : s0.heap.objs.size ≤ s.heap.objs.size := Nat.le_trans (Nat.le_succ _) (Nat.le_of_lt (Heap.lt_size hS))
    have lx := hx x (List.mem_of_getElem? ex)
    have r2 : Vals [V.str x] [.str x t0] := .cons ⟨t0, rfl⟩ .nil
    have en : Env0 X.prog X.w X.K X.mg X.base X.A.in1 X.stack s (fun _ => none) := J.env (A := X.A.in1) I hsz (by exact I.ok.frames)
    have kin : X.K.In s.heap := I.ok.mod.kin.keeps fun b o e => (en.bs b o e).1
    refine wpAny_call (codeAny_mono (F.run X.A.in1 X.stack s (fun _ => none) ⟨[.str x t0], []⟩ [.str x t0] [V.str x] (fun v H' => ∃ p, v = .ref p ∧ H' p = some (.tup [.int ((x.length : Nat) : Int), .str x])) (fun _ _ _ => False) hr en (hb s [.str x t0] kin rfl) r2 ⟨x, rfl, lx, fun p H' e => ⟨p, rfl, e⟩⟩) fun r s' hq => ?_)
    cases r with
    | error e => exact (hq : False).elim
    | ok fl =>
      cases fl with
      | ret u =>
        obtain ⟨v, H', os, bare, un, hok, rv, p, rfl, hp⟩ := (hq : CE X.stack X.prog X.w _ s _ u s')
        obtain rfl : u = .ref p := rv
        have kf := KeepF.of_un un os bare
        have fresh : ∀ o, s.heap.get? p ≠ some o := fun o e => by
          have := un.free p o e rfl List.not_mem_nil
          rw [hp] at this
          cases this
        have pS : p ≠ s0.heap.objs.size + 1 := fun e => fresh o (by rw [e]; exact hS)
        have pI : p ≠ s0.heap.objs.size := fun e => by
          obtain ⟨ob, ho, _⟩ := hst.1
          exact fresh ob (by rw [e]; exact ho)
        have pF : p ∉ frs X.stack := fun z => by
          obtain ⟨_, ob, ho, _⟩ := en.funs.mem z
          exact fresh ob ho
        have nS : s0.heap.objs.size + 1 ∉ frs X.stack := fun z => absurd (fsOld _ z) (Nat.not_lt.mpr (Nat.le_succ _))
        have nI : s0.heap.objs.size ∉ frs X.stack := fun z => absurd (fsOld _ z) (Nat.lt_irrefl _)
        refine q (.ref p) s' (J.trans kf) ⟨hst.1.at fun o e => kf.keep _ o e nI, hst.2.at fun o e => kf.keep _ o e hax⟩ (kf.keep _ o hS nS) ⟨p, x, rfl, ex, ?_, pF, ?_⟩ fun j kj ⟨t, y, e, ey, n1, n2, a1, a2, ob, ho, rr⟩ => ⟨t, y, e, ey, n1, n2, a1, a2, ob, kf.keep t ob ho n2, rr⟩
        · simp only [List.mem_cons, List.not_mem_nil, or_false, not_or]
          exact ⟨pS, pI⟩
        · obtain ⟨_, us, rr, it⟩ := hok p _ hp
          obtain ⟨x1, x2, rfl, ⟨t1, rfl⟩, ⟨t2, rfl⟩⟩ := vals2 rr
          exact ⟨t1, t2, it⟩
      | next => exact False.elim hq
      | brk => exact False.elim hq
      | cont => exact False.elim hq
  · obtain ⟨t, x, rfl, ex, _, _, t1, t2, p1⟩ := hVi
    obtain ⟨t', y, rfl, ey, _, _, t3, t4, p2⟩ := hVj
    rw [btS_at ex ey] at q
    have R := Ob.RcOp.tuples_lt (A := X.A.in1) (s := s) (e := fun j => if j = 0 then decide (x.length = y.length) else decide (x = y)) (r := fun j => if j = 0 then decide (x.length < y.length) else decide (x.cps.toList < y.cps.toList)) p1 p2 hu (fun j h1 h2 => by
      match j, h1, h2 with
      | 0, _, _ =>
        have z : (((x.length : Nat) : Int) == ((y.length : Nat) : Int)) = decide (x.length = y.length) := by
          by_cases q : x.length = y.length
          · rw [decide_eq_true q, q]
            exact beq_iff_eq.mpr rfl
          · rw [decide_eq_false q]
            exact beq_eq_false_iff_ne.mpr fun z => q (Int.ofNat_inj.mp z)
        show SeqAt.EqAt _ _ (.int _ t1) (.int _ t3) (decide (x.length = y.length))
        rw [← z]
        exact SeqAt.EqAt.int_int _ _ _ _
      | 1, _, _ =>
        have z : (x == y) = decide (x = y) := by
          by_cases e : x = y
          · rw [decide_eq_true e]; exact beq_iff_eq.mpr e
          · rw [decide_eq_false e]; exact beq_eq_false_iff_ne.mpr e
        show SeqAt.EqAt _ _ (.str x t2) (.str y t4) (decide (x = y))
        rw [← z]
        exact SeqAt.EqAt.str_str _ _ _ _) (fun j h1 h2 _ => by
      match j, h1, h2 with
      | 0, _, _ =>
        have z : decide (x.length < y.length) = decide (((x.length : Nat) : Int) < ((y.length : Nat) : Int)) := by simp only [Int.ofNat_lt]
        show Ob.RcOp .Lt _ _ (.int _ t1) (.int _ t3) (decide (x.length < y.length))
        rw [z]
        exact Ob.RcOp.lt_int _ _ _ _
      | 1, _, _ => exact fun _ _ _ _ h => PyProof.Rows.lt_str h)
    have e : Ob.lexAt (fun j => if j = 0 then decide (x.length = y.length) else decide (x = y)) (fun j => if j = 0 then decide (x.length < y.length) else decide (x.cps.toList < y.cps.toList)) (decide (2 < 2)) 0 2 = kLt x y := by
      show (if decide (x.length = y.length) = true then (if decide (x = y) = true then decide (2 < 2) else decide (x.cps.toList < y.cps.toList)) else decide (x.length < y.length)) = _
      unfold kLt
      by_cases e1 : x.length = y.length
      · by_cases e2 : x = y
        · subst e2
          simp [List.lt_irrefl]
        · simp [e1, e2]
      · simp [e1]
    refine R _ _ _ _ ?_
    have e' := e
    rw [← e'] at q
    exact q
end
end MinQ

namespace MinQ
open PySem PySem.Spec PyProof.Rows L2
theorem kLt_true {x y : Str} : kLt x y = true ↔ x.length < y.length ∨ (x.length = y.length ∧ x.cps.toList < y.cps.toList) := by
  unfold kLt
  by_cases h : x.length = y.length
  · rw [if_pos h, decide_eq_true_iff]
    exact ⟨fun z => .inr ⟨h, z⟩, fun z => z.elim (fun q => absurd q (by omega)) (·.2)⟩
  · rw [if_neg h, decide_eq_true_iff]
    exact ⟨.inl, fun z => z.elim id fun q => absurd q.1 h⟩
theorem kLt_self (x : Str) : kLt x x = false := by
  cases h : kLt x x with
  | false => rfl
  | true =>
    rcases kLt_true.mp h with q | q
    · omega
    · exact absurd q.2 (List.lt_irrefl _)
theorem kLt_trans {x y z : Str} (h : kLt x y = true) (k : kLt y z = true) : kLt x z = true := by
  rw [kLt_true] at *
  rcases h with h | h <;> rcases k with k | k
  · exact .inl (by omega)
  · exact .inl (by omega)
  · exact .inl (by omega)
  · exact .inr ⟨by omega, List.lt_trans h.2 k.2⟩
theorem best_ok {xs : List Str} : ∀ j, j < xs.length → argBest (btS xs) j ≤ j ∧ ∀ i, i ≤ j → ∀ x y, xs[i]? = some x → xs[argBest (btS xs) j]? = some y → kLt x y = false
  | 0, _ => ⟨Nat.le_refl _, fun i hi x y hx hy => by
    have : i = 0 := by omega
    subst this
    have e : xs[0]? = some y := hy
    rw [hx] at e
    cases e
    exact kLt_self x⟩
  | j + 1, hj => by
    obtain ⟨h1, h2⟩ := best_ok (xs := xs) j (by omega)
    have lb : argBest (btS xs) j < xs.length := by omega
    have eb := List.getElem?_eq_getElem lb
    have ez := List.getElem?_eq_getElem hj
    show (if btS xs (j + 1) (argBest (btS xs) j) = true then j + 1 else argBest (btS xs) j) ≤ j + 1 ∧ ∀ i, i ≤ j + 1 → ∀ x y, xs[i]? = some x → xs[if btS xs (j + 1) (argBest (btS xs) j) = true then j + 1 else argBest (btS xs) j]? = some y → kLt x y = false
    cases hb : btS xs (j + 1) (argBest (btS xs) j) with
    | true =>
      rw [if_pos rfl]
      rw [btS_at ez eb] at hb
      refine ⟨Nat.le_refl _, fun i hi x y hx hy => ?_⟩
      rw [ez] at hy
      cases hy
      by_cases g : i = j + 1
      · subst g
        rw [ez] at hx
        cases hx
        exact kLt_self _
      · have := h2 i (by omega) x _ hx eb
        cases q : kLt x xs[j + 1] with
        | false => rfl
        | true =>
          rw [kLt_trans q hb] at this
          cases this
    | false =>
      rw [if_neg Bool.false_ne_true]
      rw [btS_at ez eb] at hb
      refine ⟨by omega, fun i hi x y hx hy => ?_⟩
      by_cases g : i = j + 1
      · subst g
        rw [ez] at hx
        rw [eb] at hy
        cases hx
        cases hy
        exact hb
      · exact h2 i (by omega) x y hx hy
theorem room_in1 {k : Nat} {A : Around} (r : Room (k + 1) A) : Room k A.in1 :=
  ⟨r.hd, by have := r.dp; show A.depth + 3 * k + 5 < _; omega, by have := r.un; show A.units + 1 + 16 * k + 200 < _; omega⟩
section
variable {X : Cx}
def rMinKey (K : PySem.W.Frag) (f : Addr) : List V → List V → Hp → VK → Prop := fun vs zs H Q => ∃ (a : Addr) (xs : List Str), vs = [V.ref a] ∧ zs = [.ref f, .non] ∧ SqL K H a (xs.map V.str) ∧ (∀ x ∈ xs, x.length ≤ 1000000) ∧
  (xs = [] → Q .non H) ∧ ∀ x ∈ xs, (∀ y ∈ xs, kLt y x = false) → Q (.str x) H
theorem cr_minKey {k : Nat} {f : Addr} {fd : FuncData} (F : FnOk X.prog X.w X.K X.mg X.base CX0 k f fd ["word"] spKey) (hb : Binds X.K fd ["word"] []) (hr : Room (k + 1) X.A) : CallRK X (.builtin "min") [Str.ofString "key", Str.ofString "default"] (rMinKey X.K f) := by
  intro pins s σ H vs zs us ws Q I r rz h
  obtain ⟨a, xs, rfl, rfl, hs, hx, q0, q1⟩ := h
  obtain rfl := Vals.ref1 r
  obtain ⟨w1, w2, rfl, e1, e2⟩ := vals2 rz
  obtain rfl : w1 = .ref f := e1
  obtain rfl : w2 = Value.none := e2
  obtain ⟨its, rv, hl, _⟩ := I.list hs
  have hi : StrsAre its.toArray.toList xs := by
    rw [List.toList_toArray]
    exact rv.strs
  have hlen : its.toArray.size = xs.length := by
    rw [← Array.length_toList]
    exact hi.length
  have hax : a ∉ frs X.stack := fun z => by
    rcases hs with e | ⟨o, _, _, hk, _⟩
    · have free := I.stkFree a z
      rcases e with e | ⟨o, e⟩ <;> · rw [e] at free; cases free
    · have n := (I.stack.mem z).1
      first
        | (rw [I.mod.kin a o hk] at n; cases n)
        | (have := I.mod.kin _ _ hk; rw [this] at n; cases n)
  have hr1 := room_in1 hr
  have hu : X.A.in1.units < cLine := by
    have := hr1.un
    omega
  refine call_min_walkKD ?_
  have hh : X.A.in1.in1.handled = none := hr.hd
  have hla : a < s.heap.objs.size := by
    obtain ⟨o, _, e, _⟩ := hl
    exact Heap.lt_size e
  refine wpAny_pyIter_list hl.isList ?_
  have esz : (s.heap.push { cls := .type "list_iterator", data := .fields #[.ref a, .int 0 0] }).objs.size = s.heap.objs.size + 1 := Heap.size_push ..
  refine ⟨s.heap.objs.size, [s.heap.objs.size, a], [s.heap.objs.size], _, its.toArray.size, _, _, KeepF (frs X.stack) s, VKey (frs X.stack) s.heap.objs.size xs, btS xs, rfl, (Walks.list (by exact hr.hd) s.heap.objs.size a (Nat.ne_of_lt hla) its.toArray).toS, ⟨⟨_, Heap.get?_push_size _ rfl, rfl, rfl⟩, hl.isList.push _⟩, ?_, ?_, ?_, ?_, ?_⟩
  rotate_left
  · show KeyRun _ _ _ _ _ (s.heap.push { cls := .type "list_iterator", data := .fields #[.ref a, .int 0 0] }).objs.size _ _ _ _ _ _ _ _
    rw [esz]
    exact key_run F hb hr1 hu I hi hx hax
  · exact ⟨fun b o e _ => Heap.get?_push_of_some _ e, fun b o e _ => ⟨o.slots, Heap.get?_push_of_some _ e⟩, rfl, I.bare⟩
  · intro hn s' J
    refine ⟨.non, H, J.inv I, rfl, q0 (List.length_eq_zero_iff.mp (by rw [← hlen]; exact hn))⟩
  · intro hn v s' hP J
    have hn' : its.toArray.size - 1 < xs.length := by omega
    obtain ⟨b1, b2⟩ := best_ok (xs := xs) _ hn'
    have hP' : its.toArray[argBest (btS xs) (its.toArray.size - 1)]? = some v := hP
    obtain ⟨x, t, ex, rfl⟩ := SetQ.strs_at hi _ v (by rw [Array.getElem?_toList]; exact hP')
    refine ⟨.str x, H, J.inv I, ⟨t, rfl⟩, q1 x (List.mem_of_getElem? ex) fun y hy => ?_⟩
    obtain ⟨i, hi', ey⟩ := List.getElem_of_mem hy
    exact b2 i (by omega) y x (by rw [List.getElem?_eq_getElem hi', ey]) ex
  · intro b hb
    show b < (s.heap.push { cls := .type "list_iterator", data := .fields #[.ref a, .int 0 0] }).objs.size
    rw [esz]
    rcases List.mem_cons.mp hb with e | hb
    · rw [e]
      exact Nat.lt_succ_self _
    · rw [List.mem_singleton.mp hb]
      exact Nat.lt_succ_of_lt hla
end
end MinQ

namespace Lb
open PySem PySem.Spec PyProof.Rows L2
/-! ### x[::-1] of a text -/
def revS (z : Str) : Str := ⟨(cs z).reverse.toArray⟩
theorem cs_revS (z : Str) : cs (revS z) = (cs z).reverse := rfl
theorem rev_step (z : Str) (u : Tok) : Txt.sliceBy z none none (-1, u) = revS z := by
  refine cs_ext ?_
  show (Txt.sliceBy z none none (-1, u)).cps.toList = _
  rw [PyProof.Rows.step_rev_list, cs_revS]
  refine List.ext_getElem ?_ fun i h1 h2 => ?_
  · rw [List.length_map, List.length_range, List.length_reverse, cs_len]
  · have hi : i < z.length := by
      rw [List.length_map, List.length_range] at h1
      exact h1
    rw [List.getElem_map, List.getElem_range, List.getElem_reverse]
    have hl : (cs z).length = z.length := cs_len z
    have hj : z.length - 1 - i < z.cps.size := by
      show _ < z.length
      omega
    show z.cps.getD (z.length - 1 - i) 0 = _
    rw [Array.getD, dif_pos hj]
    show z.cps[z.length - 1 - i] = z.cps.toList[(cs z).length - 1 - i]
    simp only [hl, Array.getElem_toList]
def tRevT (te : TE) : TE := fun σ H Q => te σ H fun x H1 => ∃ z : Str, x = .str z ∧ z.length ≤ sizeLine ∧ Q (.str (revS z)) H1
theorem pe_revT {X : Cx} {e : Expr} {te : TE} {k : Nat} {p1 p2 p3 pos : Pos} (he : PE X e te) : PE X (.Subscript e (.Slice none none (some (.UnaryOp .USub (.Constant (.int 1) k p1) p2)) p3) pos) (tRevT te) := by
  refine ⟨fun pins s σ H Q I h => ?_⟩
  refine Subscript_ (thn (he.run pins s σ H _ I h) fun v s1 ⟨x, H1, I1, r1, q1⟩ => ?_)
  obtain ⟨z, ex, hz, q⟩ := q1
  subst ex
  obtain ⟨t, rfl⟩ := r1
  have hst : PO X (some (.UnaryOp .USub (.Constant (.int 1) k p1) p2)) (tPart (tUn (rU fun i => .int (-i)) (tC (.int 1)))) := po_some (pe_un un_neg pe_int)
  refine wpAny_Slice (thn (po_none.run pins s1 σ H1 (fun o H2 => o = none ∧ H2 = H1) I1 ⟨rfl, rfl⟩) fun vl s2 ⟨l, H2, I2, pl, el, e2⟩ => ?_)
  subst el e2
  refine thn (po_none.run pins s2 σ H2 (fun o H3 => o = none ∧ H3 = H2) I2 ⟨rfl, rfl⟩) fun vu s3 ⟨u, H3, I3, pu, eu, e3⟩ => ?_
  subst eu e3
  refine thn (hst.run pins s3 σ H3 (fun o H4 => o = some (-1) ∧ H4 = H3) I3 ⟨1, rfl, -1, rfl, rfl, rfl⟩) fun vs s4 ⟨o, H4, I4, ps, eo, e4⟩ => ?_
  subst eo e4
  have I5 : Inv X pins σ H4 { s4 with heap := s4.heap.push { cls := .type "slice", data := .fields #[vl, vu, vs] } } := I4.kept (t' := s4.toks) fun b ob q => Heap.get?_push_of_some _ q
  cases pl
  cases pu
  cases ps with
  | int _ uk =>
  show wpAny (model X.prog X.w) X.A (subscriptTail e (.Slice none none (some (.UnaryOp .USub (.Constant (.int 1) k p1) p2)) p3) (.str z t) (.ref s4.heap.objs.size)) (EP X pins σ Q) X.xe { s4 with heap := s4.heap.push { cls := .type "slice", data := .fields #[.none, .none, .int (-1) uk] } }
  refine tail_any (ops := [.ref s4.heap.objs.size, .str z t]) (typeIs_str _ _ _) F.slot_str_getitem.lookup ?_ (by with_unfolding_all rfl)
  refine wpAny_getItem_str_slice (l := none) (u := none) (st := some (-1, uk)) ⟨_, Heap.get?_push_size _ rfl, rfl, rfl⟩ rfl ?_
  refine post_val_or_str (y := z) (z := ⟨((slicePicked z none none (some (-1, uk))).filterMap (z.cps[·]?)).toArray⟩) ?_
  have e := rev_step z uk
  unfold Txt.sliceBy at e
  rw [e]
  refine ⟨?_, fun t' k => ⟨.str (revS z), H4, I5.tok _, ⟨_, rfl⟩, q⟩⟩
  rw [← cs_len, cs_revS, List.length_reverse, cs_len]
  exact hz
end Lb


namespace Lb
open PySem PySem.Spec PyProof.Rows L2
def inR : V → Int → Int → Bool
  | .int i, lo, hi => decide (lo ≤ i) && decide (i ≤ hi)
  | _, _, _ => false
/-- an error of the class at C with that value, at any later heap -/
def Raised [Tabl] (H : Hp) (C : Addr) (v : V) (E : XK) : Prop := ∀ (d : Addr) (H1 H' : Hp), Same H H1 → H1 d = none → H' = upd H1 d (.xd [("value", v)]) → E (.ref C) (some d) H'
theorem Raised.same [Tabl] {H H1 : Hp} {C : Addr} {v : V} {E : XK} (r : Raised H C v E) (s : Same H H1) : Raised H1 C v E := fun d H2 H' s2 n e => r d H2 H' (s.trans s2) n e
/-- v is an alphabet, v is a word over the alphabet L -/
def AlphaV (v : V) : Prop := ∃ z, v = .str z ∧ IsAlpha z
def WordV (L v : V) (m : Nat) : Prop := ∃ z x, L = .str z ∧ v = .str x ∧ IsAlpha z ∧ Over z x ∧ x.length ≤ m
def plainV : V → Bool
  | .non => true
  | .bl _ => true
  | .int _ => true
  | .str _ => true
  | _ => false
/-- equal plain values, or two tuples, two lists with items that rel relates -/
def SameR (rel : Hp → V → V → Prop) (H : Hp) (x y : V) : Prop := (x = y ∧ plainV y = true) ∨ ∃ (p q : Addr) (xs ys : List V), x = .ref p ∧ y = .ref q ∧
  ((H p = some (.tup xs) ∧ H q = some (.tup ys)) ∨ (H p = some (.lst xs) ∧ H q = some (.lst ys))) ∧ xs.length = ys.length ∧ ys.length ≤ 1000000 ∧ ∀ (i : Nat) (x' y' : V), xs[i]? = some x' → ys[i]? = some y' → rel H x' y'
def SameD : Nat → Hp → V → V → Prop
  | 0 => SameR fun _ _ _ => False
  | n + 1 => SameR (SameD n)
/-- a plain value of at most n levels, apart from the store at a -/
def DeepR (a : Addr) (rel : Hp → V → Prop) (H : Hp) (v : V) : Prop := (plainV v = true ∧ (∀ x : Str, v = .str x → x.length ≤ 1000000) ∧ ∀ i : Int, v = .int i → i.natAbs < 2 ^ 13000) ∨
  ∃ (p : Addr) (xs : List V), v = .ref p ∧ p ≠ a ∧ (H p = some (.lst xs) ∨ H p = some (.tup xs)) ∧ xs.length ≤ 1000000 ∧ ∀ x ∈ xs, rel H x
def Deep (a : Addr) : Nat → Hp → V → Prop
  | 0 => DeepR a fun _ _ => False
  | n + 1 => DeepR a (Deep a n)
theorem Deep.but [Tabl] {a : Addr} {H H' : Hp} (k : But a H H') : ∀ {n : Nat} {v : V}, Deep a n H v → Deep a n H' v
  | 0, v, h => h.elim .inl fun ⟨p, xs, e, ne, o, l, r⟩ => .inr ⟨p, xs, e, ne, o.elim (fun q => .inl (k _ _ ne q)) (fun q => .inr (k _ _ ne q)), l, r⟩
  | n + 1, v, h => h.elim .inl fun ⟨p, xs, e, ne, o, l, r⟩ => .inr ⟨p, xs, e, ne, o.elim (fun q => .inl (k _ _ ne q)) (fun q => .inr (k _ _ ne q)), l, fun x m => Deep.but k (r x m)⟩
theorem Deep.same [Tabl] {a : Addr} {H H' : Hp} {n : Nat} {v : V} (h : Deep a n H v) (s : Same H H') : Deep a n H' v := h.but (But.same s)
theorem Deep.up {a : Addr} {H : Hp} : ∀ {n : Nat} {v : V}, Deep a n H v → Deep a (n + 1) H v
  | 0, v, h => h.elim .inl fun ⟨p, xs, e, ne, o, l, r⟩ => .inr ⟨p, xs, e, ne, o, l, fun x m => (r x m).elim⟩
  | n + 1, v, h => h.elim .inl fun ⟨p, xs, e, ne, o, l, r⟩ => .inr ⟨p, xs, e, ne, o, l, fun x m => Deep.up (r x m)⟩
theorem Deep.le {a : Addr} {H : Hp} {n m : Nat} {v : V} (h : Deep a n H v) (l : n ≤ m) : Deep a m H v := by
  induction l with
  | refl => exact h
  | step _ ih => exact ih.up
theorem Deep.shal {a : Addr} {H : Hp} {n : Nat} {v : V} (h : Deep a n H v) : Shal H v := by
  have key : ∀ rel, DeepR a rel H v → Shal H v := by
    rintro rel (⟨pl, tx, _⟩ | ⟨p, xs, e, _, o, _⟩)
    · cases v with
      | non => exact .inr (.inl rfl)
      | bl b => exact .inr (.inr (.inl ⟨b, rfl⟩))
      | int i => exact .inr (.inr (.inr (.inl ⟨i, rfl⟩)))
      | str x => exact .inl ⟨x, rfl, tx x rfl⟩
      | _ => cases pl
    · exact .inr (.inr (.inr (.inr ⟨p, xs, e, o⟩)))
  cases n with
  | zero => exact key _ h
  | succ n => exact key _ h
theorem deep_atom {a : Addr} {H : Hp} {n : Nat} {v : V} (pl : plainV v = true) (tx : ∀ x : Str, v = .str x → x.length ≤ 1000000) (it : ∀ i : Int, v = .int i → i.natAbs < 2 ^ 13000) : Deep a n H v := by
  cases n <;> exact .inl ⟨pl, tx, it⟩
theorem deep_str {a : Addr} {H : Hp} {n : Nat} {x : Str} (l : x.length ≤ 1000000) : Deep a n H (.str x) := deep_atom rfl (fun y e => by cases e; exact l) (fun i e => by cases e)
theorem deep_int {a : Addr} {H : Hp} {n : Nat} {i : Int} (l : i.natAbs < 2 ^ 13000) : Deep a n H (.int i) := deep_atom rfl (fun y e => by cases e) (fun j e => by cases e; exact l)
theorem deep_non {a : Addr} {H : Hp} {n : Nat} : Deep a n H .non := deep_atom rfl (fun y e => by cases e) (fun i e => by cases e)
theorem deep_bl {a : Addr} {H : Hp} {n : Nat} {b : Bool} : Deep a n H (.bl b) := deep_atom rfl (fun y e => by cases e) (fun i e => by cases e)
theorem deep_lst {a p : Addr} {H : Hp} {n : Nat} {xs : List V} (ne : p ≠ a) (e : H p = some (.lst xs)) (l : xs.length ≤ 1000000) (r : ∀ x ∈ xs, Deep a n H x) : Deep a (n + 1) H (.ref p) := .inr ⟨p, xs, rfl, ne, .inl e, l, r⟩
theorem deep_tup {a p : Addr} {H : Hp} {n : Nat} {xs : List V} (ne : p ≠ a) (e : H p = some (.tup xs)) (l : xs.length ≤ 1000000) (r : ∀ x ∈ xs, Deep a n H x) : Deep a (n + 1) H (.ref p) := .inr ⟨p, xs, rfl, ne, .inr e, l, r⟩
theorem Deep.samed {a : Addr} {H : Hp} : ∀ {n : Nat} {v : V}, Deep a n H v → SameD n H v v
  | 0, v, h => h.elim (fun q => .inl ⟨rfl, q.1⟩) fun ⟨p, xs, e, ne, o, l, r⟩ => .inr ⟨p, p, xs, xs, e, e, o.elim (fun q => .inr ⟨q, q⟩) (fun q => .inl ⟨q, q⟩), rfl, l, fun i x y ex ey => (r x (List.mem_of_getElem? ex)).elim⟩
  | n + 1, v, h => h.elim (fun q => .inl ⟨rfl, q.1⟩) fun ⟨p, xs, e, ne, o, l, r⟩ => .inr ⟨p, p, xs, xs, e, e, o.elim (fun q => .inr ⟨q, q⟩) (fun q => .inl ⟨q, q⟩), rfl, l, fun i x y ex ey => by
      rw [ex] at ey
      cases ey
      exact Deep.samed (r x (List.mem_of_getElem? ex))⟩
theorem SameD.keep [Tabl] {H H' : Hp} (s : Same H H') : ∀ {n : Nat} {x y : V}, SameD n H x y → SameD n H' x y
  | 0, x, y, h => h.elim .inl fun ⟨p, q, xs, ys, e1, e2, o, l, m, r⟩ => .inr ⟨p, q, xs, ys, e1, e2, o.elim (fun z => .inl ⟨s _ _ z.1, s _ _ z.2⟩) (fun z => .inr ⟨s _ _ z.1, s _ _ z.2⟩), l, m, fun i a b ea eb => (r i a b ea eb).elim⟩
  | n + 1, x, y, h => h.elim .inl fun ⟨p, q, xs, ys, e1, e2, o, l, m, r⟩ => .inr ⟨p, q, xs, ys, e1, e2, o.elim (fun z => .inl ⟨s _ _ z.1, s _ _ z.2⟩) (fun z => .inr ⟨s _ _ z.1, s _ _ z.2⟩), l, m, fun i a b ea eb => SameD.keep s (r i a b ea eb)⟩
theorem nodup_len : ∀ (l D : List Nat), l.Nodup → (∀ x ∈ l, x ∈ D) → l.length ≤ D.length
  | [], _, _, _ => Nat.zero_le _
  | x :: l, D, nd, h => by
    obtain ⟨h1, h2⟩ := List.nodup_cons.mp nd
    have ih := nodup_len l (D.erase x) h2 fun y hy => (List.mem_erase_of_ne (fun e : y = x => h1 (by rw [← e]; exact hy))).mpr (h y (List.mem_cons_of_mem _ hy))
    have m := h x (List.mem_cons_self ..)
    rw [List.length_erase_of_mem m] at ih
    have := List.length_pos_of_mem m
    rw [List.length_cons]
    omega
/-- one-sign texts joined -/
theorem signs_len {ys : List Str} (h : ∀ y ∈ ys, ∃ c, y = (⟨#[c]⟩ : Str)) : (ys.map (·.length)).sum = ys.length := by
  induction ys with
  | nil => rfl
  | cons y r ih =>
    obtain ⟨c, rfl⟩ := h y List.mem_cons_self
    rw [List.map_cons, List.sum_cons, ih fun x m => h x (List.mem_cons_of_mem _ m), List.length_cons]
    show 1 + r.length = r.length + 1
    omega
theorem join0_len (ys : List Str) : (Txt.join (Str.ofString "") ys).length = (ys.map (·.length)).sum := by
  rw [← cs_len, cs_join0, List.length_flatten, List.map_map]
  congr 1
theorem up3 (c : Nat) : (Txt.upper ⟨#[c]⟩).length ≤ 3 := by
  have h := PyProof.Rows.len_upper (⟨#[c]⟩ : Str)
  have e : (⟨#[c]⟩ : Str).length = 1 := rfl
  omega
theorem Deep.avoid {a D : Addr} {H : Hp} (nd : H D = none) : ∀ {n : Nat} {v : V}, Deep a n H v → Deep D n H v
  | 0, v, h => h.elim .inl fun ⟨p, xs, e, _, o, l, r⟩ => .inr ⟨p, xs, e, fun z => by subst z; rcases o with o | o <;> (rw [nd] at o; cases o), o, l, r⟩
  | n + 1, v, h => h.elim .inl fun ⟨p, xs, e, _, o, l, r⟩ => .inr ⟨p, xs, e, fun z => by subst z; rcases o with o | o <;> (rw [nd] at o; cases o), o, l, fun x m => Deep.avoid nd (r x m)⟩
theorem same_row {H : Hp} {p : Addr} {xs ys : List V} (h : H p = some (.lst xs) ∨ H p = some (.tup xs)) (k : H p = some (.lst ys) ∨ H p = some (.tup ys)) : xs = ys := by
  rcases h with h | h <;> rcases k with k | k <;> (rw [h] at k; cases k) <;> rfl
theorem Deep.put [Tabl] {b D : Addr} {H H' : Hp} (k : But D H H') : ∀ {n : Nat} {v : V}, Deep b n H v → Deep D n H v → Deep b n H' v
  | 0, v, h, g => h.elim .inl fun ⟨p, xs, e, ne, o, l, r⟩ => g.elim .inl fun ⟨q, ys, e2, nd, _⟩ => by
      subst e
      cases e2
      exact .inr ⟨p, xs, rfl, ne, o.elim (fun z => .inl (k _ _ nd z)) (fun z => .inr (k _ _ nd z)), l, r⟩
  | n + 1, v, h, g => h.elim .inl fun ⟨p, xs, e, ne, o, l, r⟩ => g.elim .inl fun ⟨q, ys, e2, nd, o2, _, r2⟩ => by
      subst e
      cases e2
      have := same_row o o2
      subst this
      exact .inr ⟨p, xs, rfl, ne, o.elim (fun z => .inl (k _ _ nd z)) (fun z => .inr (k _ _ nd z)), l, fun x m => Deep.put k (r x m) (r2 x m)⟩
theorem deep_ref {D p : Addr} {H : Hp} {n : Nat} {xs : List V} (g : Deep D n H (.ref p)) (o : H p = some (.lst xs) ∨ H p = some (.tup xs)) : p ≠ D ∧ ∀ m, n = m + 1 → ∀ x ∈ xs, Deep D m H x := by
  cases n with
  | zero =>
    rcases g with ⟨pl, _⟩ | ⟨q, ys, e, ne, _⟩
    · cases pl
    · cases e
      exact ⟨ne, fun m e => by cases e⟩
  | succ n =>
    rcases g with ⟨pl, _⟩ | ⟨q, ys, e, ne, o2, _, r⟩
    · cases pl
    · cases e
      have := same_row o o2
      subst this
      exact ⟨ne, fun m e => by cases e; exact r⟩
theorem SameD.put [Tabl] {D : Addr} {H H' : Hp} (k : But D H H') : ∀ {n : Nat} {x y : V}, SameD n H x y → Deep D n H x → Deep D n H y → SameD n H' x y
  | 0, x, y, h, gx, gy => h.elim .inl fun ⟨p, q, xs, ys, e1, e2, o, l, m, r⟩ => by
      subst e1
      subst e2
      have d1 := (deep_ref gx (o.elim (fun z => .inr z.1) fun z => .inl z.1)).1
      have d2 := (deep_ref gy (o.elim (fun z => .inr z.2) fun z => .inl z.2)).1
      exact .inr ⟨p, q, xs, ys, rfl, rfl, o.elim (fun z => .inl ⟨k _ _ d1 z.1, k _ _ d2 z.2⟩) (fun z => .inr ⟨k _ _ d1 z.1, k _ _ d2 z.2⟩), l, m, fun i a b ea eb => (r i a b ea eb).elim⟩
  | n + 1, x, y, h, gx, gy => h.elim .inl fun ⟨p, q, xs, ys, e1, e2, o, l, m, r⟩ => by
      subst e1
      subst e2
      have d1 := deep_ref gx (o.elim (fun z => .inr z.1) fun z => .inl z.1)
      have d2 := deep_ref gy (o.elim (fun z => .inr z.2) fun z => .inl z.2)
      exact .inr ⟨p, q, xs, ys, rfl, rfl, o.elim (fun z => .inl ⟨k _ _ d1.1 z.1, k _ _ d2.1 z.2⟩) (fun z => .inr ⟨k _ _ d1.1 z.1, k _ _ d2.1 z.2⟩), l, m, fun i a b ea eb => SameD.put k (r i a b ea eb) (d1.2 n rfl a (List.mem_of_getElem? ea)) (d2.2 n rfl b (List.mem_of_getElem? eb))⟩
theorem Same.some [Tabl] {H H' : Hp} (s : Same H H') {b : Addr} (h : H b ≠ none) : H' b ≠ none := fun e => h (s.free e)
/-- x == s, x any plain value, s a text -/
def rEqStr : R2 := fun x y H Q => ∃ z : Str, y = .str z ∧ Shal H x ∧ Q (.bl (decide (x = .str z))) H
theorem op_eqStr {X : Cx} (hu : X.A.units < cLine) : OpR X (compareOp .Eq) rEqStr := by
  intro pins s σ H x y v u Q I rx ry h
  obtain ⟨z, rfl, sx, q⟩ := h
  have flat : scal x (.str z) = true → wpAny (model X.prog X.w) X.A (compareOp .Eq v u) (EP X pins σ Q) X.xe s := fun sc => op_eq pins s σ H x (.str z) v u Q I rx ry ⟨sc, q⟩
  rcases sx with ⟨y, rfl, _⟩ | rfl | ⟨b, rfl⟩ | ⟨i, rfl⟩ | ⟨p, xs, rfl, h | h⟩
  · exact flat rfl
  · exact flat rfl
  · exact flat rfl
  · exact flat rfl
  · rw [decide_eq_false (fun e => by cases e)] at q
    obtain ⟨its, rv, hl, _⟩ := I.list (show SqL X.K H p xs from .inl (.inl h))
    obtain ⟨t', rfl⟩ := ry
    cases rx
    exact SeqAt.RcAt.list_str z t' hl.isList hu X.prog X.w _ _ ⟨.bl false, H, I, rfl, q⟩
  · rw [decide_eq_false (fun e => by cases e)] at q
    obtain ⟨its, rv, hl, _⟩ := I.tuple (show SqT X.K H p xs from .inl (.inl h))
    obtain ⟨t', rfl⟩ := ry
    cases rx
    exact SeqAt.RcAt.tuple_str z t' hl hu X.prog X.w _ _ ⟨.bl false, H, I, rfl, q⟩
def NameS (x : Str) : Prop := 1 ≤ x.length ∧ x.length ≤ 12 ∧ (∀ c, (cs x)[0]? = some c → c ∈ cs abc) ∧ ∀ c ∈ cs x, c ∈ cs abc ∨ c ∈ cs (Str.ofString "0123456789")
def NameV (v : V) : Prop := ∃ x, v = .str x ∧ NameS x
/-! like values, yes or no -/
def DeepE (dp : Hp → V → Prop) (H : Hp) (v : V) : Prop := (plainV v = true ∧ ∀ x : Str, v = .str x → x.length ≤ 1000000) ∨ ∃ (p : Addr) (xs : List V), v = .ref p ∧ (H p = some (.lst xs) ∨ H p = some (.tup xs)) ∧ xs.length ≤ 1000000 ∧ ∀ x ∈ xs, dp H x
def DeepN : Nat → Hp → V → Prop
  | 0 => DeepE fun _ _ => False
  | n + 1 => DeepE (DeepN n)
theorem Deep.toN {a : Addr} {H : Hp} : ∀ {n : Nat} {v : V}, Deep a n H v → DeepN n H v
  | 0, v, h => h.elim (fun q => .inl ⟨q.1, q.2.1⟩) fun ⟨p, xs, e, _, o, l, r⟩ => .inr ⟨p, xs, e, o, l, r⟩
  | n + 1, v, h => h.elim (fun q => .inl ⟨q.1, q.2.1⟩) fun ⟨p, xs, e, _, o, l, r⟩ => .inr ⟨p, xs, e, o, l, fun x m => Deep.toN (r x m)⟩
theorem DeepE.shal {dp : Hp → V → Prop} {H : Hp} {v : V} (h : DeepE dp H v) : Shal H v := by
  rcases h with ⟨pl, tx⟩ | ⟨p, xs, e, o, _⟩
  · cases v with
    | non => exact .inr (.inl rfl)
    | bl b => exact .inr (.inr (.inl ⟨b, rfl⟩))
    | int i => exact .inr (.inr (.inr (.inl ⟨i, rfl⟩)))
    | str x => exact .inl ⟨x, rfl, tx x rfl⟩
    | _ => cases pl
  · exact .inr (.inr (.inr (.inr ⟨p, xs, e, o⟩)))
/-- isinstance(v, tuple), isinstance(v, list) -/
theorem isi_tup {K : PySem.W.Frag} {H : Hp} {v : V} (h : Shal H v) : ∃ (t : Value) (b : Bool), TyX K H v t ∧ PySem.W.kitOne K t (.type "tuple") = some b ∧ (b = true ↔ ∃ p xs, v = .ref p ∧ H p = some (.tup xs)) := by
  rcases h with ⟨x, rfl, _⟩ | rfl | ⟨b, rfl⟩ | ⟨i, rfl⟩ | ⟨p, xs, rfl, h | h⟩
  · exact ⟨_, false, .base (.str x), kit_ty (by decide +kernel), ⟨fun e => (by cases e), fun ⟨p, xs, e, _⟩ => (by cases e)⟩⟩
  · exact ⟨_, false, .base .non, kit_ty (by decide +kernel), ⟨fun e => (by cases e), fun ⟨p, xs, e, _⟩ => (by cases e)⟩⟩
  · exact ⟨_, false, .base (.bl b), kit_ty (by decide +kernel), ⟨fun e => (by cases e), fun ⟨p, xs, e, _⟩ => (by cases e)⟩⟩
  · exact ⟨_, false, .base (.int i), kit_ty (by decide +kernel), ⟨fun e => (by cases e), fun ⟨p, xs, e, _⟩ => (by cases e)⟩⟩
  · exact ⟨_, false, .base (.lst h), kit_ty (by decide +kernel), ⟨fun e => (by cases e), fun ⟨p, xs, e, k⟩ => (by cases e; rw [h] at k; cases k)⟩⟩
  · exact ⟨_, true, .base (.tup h), kit_ty (by decide +kernel), ⟨fun _ => ⟨p, xs, rfl, h⟩, fun _ => rfl⟩⟩
theorem isi_lst {K : PySem.W.Frag} {H : Hp} {v : V} (h : Shal H v) : ∃ (t : Value) (b : Bool), TyX K H v t ∧ PySem.W.kitOne K t (.type "list") = some b ∧ (b = true ↔ ∃ p xs, v = .ref p ∧ H p = some (.lst xs)) := by
  rcases h with ⟨x, rfl, _⟩ | rfl | ⟨b, rfl⟩ | ⟨i, rfl⟩ | ⟨p, xs, rfl, h | h⟩
  · exact ⟨_, false, .base (.str x), kit_ty (by decide +kernel), ⟨fun e => (by cases e), fun ⟨p, xs, e, _⟩ => (by cases e)⟩⟩
  · exact ⟨_, false, .base .non, kit_ty (by decide +kernel), ⟨fun e => (by cases e), fun ⟨p, xs, e, _⟩ => (by cases e)⟩⟩
  · exact ⟨_, false, .base (.bl b), kit_ty (by decide +kernel), ⟨fun e => (by cases e), fun ⟨p, xs, e, _⟩ => (by cases e)⟩⟩
  · exact ⟨_, false, .base (.int i), kit_ty (by decide +kernel), ⟨fun e => (by cases e), fun ⟨p, xs, e, _⟩ => (by cases e)⟩⟩
  · exact ⟨_, true, .base (.lst h), kit_ty (by decide +kernel), ⟨fun _ => ⟨p, xs, rfl, h⟩, fun _ => rfl⟩⟩
  · exact ⟨_, false, .base (.tup h), kit_ty (by decide +kernel), ⟨fun e => (by cases e), fun ⟨p, xs, e, k⟩ => (by cases e; rw [h] at k; cases k)⟩⟩
/-- an atom is like itself alone -/
theorem same_atom {rel : Hp → V → V → Prop} {H : Hp} {x y : V} (h : plainV y = true) : SameR rel H x y ↔ x = y := by
  constructor
  · rintro (⟨e, _⟩ | ⟨p, q, xs, ys, e1, e2, _⟩)
    · exact e
    · rw [e2] at h
      cases h
  · exact fun e => .inl ⟨e, h⟩
/-! what an expression does first, told apart from what is done with its value -/
theorem next_to {D : Ends} {σ : L2.St} {H : Hp} (h : D.nx σ H) : tNext D σ H := h
theorem lift_if {tl : TE} {ta : TA} {sp : Sp} {S tr : TS} {D : Ends} {σ : L2.St} {H : Hp} (Pv : V → Hp → Prop) (h : ∀ Qx : VK, (∀ x H3, Pv x H3 → Qx x H3) → tl σ H Qx)
    (hk : ∀ x H3, Pv x H3 → tSeq (tIfS (tNot (tB (tCall sp [] E0 (tCons (tC x) ta)))) tr tNext) S D σ H3) : tSeq (tIfS (tNot (tB (tCall sp [] E0 (tCons tl ta)))) tr tNext) S D σ H := h _ hk
theorem lift_asg {tl : TE} {S : TS} {tg : TG} {D : Ends} {σ : L2.St} {H : Hp} (Pv : V → Hp → Prop) (h : ∀ Qx : VK, (∀ x H3, Pv x H3 → Qx x H3) → tl σ H Qx)
    (hk : ∀ x H3, Pv x H3 → tSeq (tAsg (tC x) tg) S D σ H3) : tSeq (tAsg tl tg) S D σ H := h _ hk
theorem lift_ret {tl : TE} {ta : TA} {sp : Sp} {D : Ends} {σ : L2.St} {H : Hp} (Pv : V → Hp → Prop) (h : ∀ Qx : VK, (∀ x H3, Pv x H3 → Qx x H3) → tl σ H Qx)
    (hk : ∀ x H3, Pv x H3 → tRet (tCall sp [] E0 (tCons (tC x) ta)) D σ H3) : tRet (tCall sp [] E0 (tCons tl ta)) D σ H := h _ hk
theorem lift_if2 {tl tl2 : TE} {sp : Sp} {S tr : TS} {D : Ends} {σ : L2.St} {H : Hp} (Pv : V → V → Hp → Prop) (h : ∀ Qx : V → VK, (∀ x y H3, Pv x y H3 → Qx x y H3) → tl σ H fun x H1 => tl2 σ H1 fun y H2 => Qx x y H2)
    (hk : ∀ x y H3, Pv x y H3 → tSeq (tIfS (tNot (tB (tCall sp [] E0 (tCons (tC x) (tCons (tC y) tNil))))) tr tNext) S D σ H3) : tSeq (tIfS (tNot (tB (tCall sp [] E0 (tCons tl (tCons tl2 tNil))))) tr tNext) S D σ H := h _ hk
/-! two for in a comprehension -/
theorem lc2_in {J1 : It} {n1 : Nat} {G1 : Hp → Prop} {Y1 : Nat → Hp → V → Hp → Prop} (w : Walk J1 n1 G1 Y1) {g1 : TG} {tt1 : TT} {te : TE} {vs1 : List Nat} {σ2 : L2.St} {H4 : Hp} {D : Addr} {Nx : Hp → Prop} (Pv : Nat → Hp → Prop) (h0 : Pv 0 H4) (hG : ∀ i H, i ≤ n1 → Pv i H → G1 H)
    (hs : ∀ j x H H', j < n1 → Pv j H → Y1 j H x H' → g1 x (wipe σ2 vs1) H' fun σ3 H5 => wipe σ3 vs1 = wipe σ2 vs1 ∧ tt1 σ3 H5 fun b H6 =>
      if b = true then te σ3 H6 fun y H7 => ∃ acc, H7 D = some (.lst acc) ∧ acc.length < sizeLine ∧ Pv (j + 1) (upd H7 D (.lst (acc ++ [y]))) else Pv (j + 1) H6) (hd : ∀ H, Pv n1 H → Nx H) :
    ∃ W1 : Nat → Nat → Hp → Prop, (∃ m, W1 0 m H4) ∧ ∀ j k H, W1 j k H →
      (J1.stop j H ∧ Nx H) ∨ (J1.go j H ∧ ∃ Nx1 : Hp → Prop, (∀ H', Nx1 H' → ∃ k', k' < k ∧ W1 (j + 1) k' H') ∧ ∀ x H', J1.yld j H x H' → g1 x (wipe σ2 vs1) H' fun σ3 H5 => wipe σ3 vs1 = wipe σ2 vs1 ∧ tt1 σ3 H5 fun b H6 =>
        if b = true then te σ3 H6 fun y H7 => ∃ acc, H7 D = some (.lst acc) ∧ acc.length < sizeLine ∧ Nx1 (upd H7 D (.lst (acc ++ [y]))) else Nx1 H6) := by
  refine ⟨fun i m H => m = n1 - i ∧ i ≤ n1 ∧ Pv i H, ⟨n1, by simp, Nat.zero_le _, h0⟩, ?_⟩
  rintro i m H ⟨rfl, hi, q⟩
  have gg := hG i H hi q
  by_cases hlt : i < n1
  · refine .inr ⟨w.goes i H hlt gg, Pv (i + 1), fun H' p' => ⟨n1 - (i + 1), by omega, rfl, hlt, p'⟩, fun x H' y => hs i x H H' hlt q (w.yields i H x H' hlt gg y)⟩
  · have e : i = n1 := by omega
    subst e
    exact .inl ⟨w.stops H gg, hd H q⟩
theorem lc2_out {J : It} {n : Nat} {G : Hp → Prop} {Y : Nat → Hp → V → Hp → Prop} (w : Walk J n G Y) {H1 : Hp} {Qd : Hp → Prop} {Step : (Hp → Prop) → V → Hp → Prop} {D : Addr} (Pv : Nat → Hp → Prop) (h0 : Pv 0 (upd H1 D (.lst []))) (hG : ∀ i H, i ≤ n → Pv i H → G H)
    (hs : ∀ i x H H', i < n → Pv i H → Y i H x H' → Step (Pv (i + 1)) x H') (hd : ∀ H, Pv n H → Qd H) :
    ∃ W : Nat → Nat → Hp → Prop, (∃ m, W 0 m (upd H1 D (.lst []))) ∧ ∀ i m H, W i m H →
      (J.stop i H ∧ Qd H) ∨ (J.go i H ∧ ∃ Nx : Hp → Prop, (∀ H', Nx H' → ∃ m', m' < m ∧ W (i + 1) m' H') ∧ ∀ x H', J.yld i H x H' → Step Nx x H') := by
  refine ⟨fun i m H => m = n - i ∧ i ≤ n ∧ Pv i H, ⟨n, by simp, Nat.zero_le _, h0⟩, ?_⟩
  rintro i m H ⟨rfl, hi, q⟩
  have gg := hG i H hi q
  by_cases hlt : i < n
  · refine .inr ⟨w.goes i H hlt gg, Pv (i + 1), fun H' p' => ⟨n - (i + 1), by omega, rfl, hlt, p'⟩, fun x H' y => hs i x H H' hlt q (w.yields i H x H' hlt gg y)⟩
  · have e : i = n := by omega
    subst e
    exact .inl ⟨w.stops H gg, hd H q⟩
theorem cutV_upto (xs : List V) (k : Nat) : cutV xs none (some (k : Int)) = xs.take k := by
  show (xs.drop (HT.sIx xs.length 0 none)).take (HT.sIx xs.length xs.length (some (k : Int)) - HT.sIx xs.length 0 none) = _
  rw [HT.sIx_none, HT.sIx_nat, List.drop_zero, Nat.sub_zero]
  by_cases h : k ≤ xs.length
  · rw [Nat.min_eq_left h]
  · rw [Nat.min_eq_right (by omega), List.take_of_length_le (Nat.le_refl _), List.take_of_length_le (by omega)]
theorem DeepN.same [Tabl] {H H' : Hp} (s : Same H H') : ∀ {n : Nat} {v : V}, DeepN n H v → DeepN n H' v
  | 0, v, h => h.elim .inl fun ⟨p, xs, e, o, l, r⟩ => .inr ⟨p, xs, e, o.elim (fun z => .inl (s _ _ z)) (fun z => .inr (s _ _ z)), l, fun x m => (r x m).elim⟩
  | n + 1, v, h => h.elim .inl fun ⟨p, xs, e, o, l, r⟩ => .inr ⟨p, xs, e, o.elim (fun z => .inl (s _ _ z)) (fun z => .inr (s _ _ z)), l, fun x m => DeepN.same s (r x m)⟩
theorem skip_seq {c : TT} {t S : TS} {D : Ends} {σ : L2.St} {H : Hp} (Pv : Hp → Prop) (hc : ∀ Q : Bool → Hp → Prop, (∀ H', Pv H' → Q false H') → c σ H Q) (hu : ∀ H', Pv H' → S D σ H') : tSeq (tIfS c t tNext) S D σ H :=
  hc _ fun H' p => iteF (hu H' p)
theorem lift_not {tl : TE} {ta : TA} {sp : Sp} {σ : L2.St} {H : Hp} {Q : Bool → Hp → Prop} (Pv : V → Hp → Prop) (h : ∀ Qx : VK, (∀ x H3, Pv x H3 → Qx x H3) → tl σ H Qx)
    (hk : ∀ x H3, Pv x H3 → tNot (tB (tCall sp [] E0 (tCons (tC x) ta))) σ H3 Q) : tNot (tB (tCall sp [] E0 (tCons tl ta))) σ H Q := h _ hk
theorem lift_call {tl : TE} {ta : TA} {sp : Sp} {σ : L2.St} {H : Hp} {Q : VK} (Pv : V → Hp → Prop) (h : ∀ Qx : VK, (∀ x H3, Pv x H3 → Qx x H3) → tl σ H Qx)
    (hk : ∀ x H3, Pv x H3 → tCall sp [] E0 (tCons (tC x) ta) σ H3 Q) : tCall sp [] E0 (tCons tl ta) σ H Q := h _ hk
/-- a told pair zs, and the pair at d: like ones -/
def PairZ (d : V) (zs : List V) (Hx : Hp) : Prop := ∃ (pd : Addr) (nm : Str) (u w : V), d = .ref pd ∧ Hx pd = some (.tup [.str nm, w]) ∧ zs = [.str nm, u] ∧ SameD 8 Hx u w ∧ DeepN 8 Hx u ∧ DeepN 8 Hx w ∧ nm.length ≤ 1000000
theorem PairZ.same [Tabl] {d : V} {zs : List V} {H H' : Hp} (h : PairZ d zs H) (s : Same H H') : PairZ d zs H' := by
  obtain ⟨pd, nm, u, w, e, hp, ez, sm, du, dw, l⟩ := h
  exact ⟨pd, nm, u, w, e, s _ _ hp, ez, sm.keep s, du.same s, dw.same s, l⟩
theorem PairZ.fit {d : V} {zs : List V} {H : Hp} {t : Addr} (h : PairZ d zs H) (ht : H t = some (.tup zs)) : SameD 9 H (.ref t) d ∧ DeepN 9 H (.ref t) ∧ DeepN 9 H d := by
  obtain ⟨pd, nm, u, w, rfl, hp, rfl, sm, du, dw, l⟩ := h
  have row : ∀ {q : V}, DeepN 8 H q → ∀ y ∈ [V.str nm, q], DeepN 8 H y := fun dq y m => by
    rcases List.mem_cons.mp m with m | m
    · subst m
      exact .inl ⟨rfl, fun z e => by cases e; exact l⟩
    · rw [List.mem_singleton.mp m]
      exact dq
  refine ⟨.inr ⟨t, pd, _, _, rfl, rfl, .inl ⟨ht, hp⟩, rfl, by show 2 ≤ 1000000; decide, fun i x y ex ey => ?_⟩, .inr ⟨t, _, rfl, .inr ht, by show 2 ≤ 1000000; decide, row du⟩, .inr ⟨pd, _, rfl, .inr hp, by show 2 ≤ 1000000; decide, row dw⟩⟩
  match i, ex, ey with
  | 0, ex, ey =>
    cases ex
    cases ey
    exact .inl ⟨rfl, rfl⟩
  | 1, ex, ey =>
    cases ex
    cases ey
    exact sm
theorem SameD.symm {H : Hp} : ∀ {n : Nat} {x y : V}, SameD n H x y → SameD n H y x
  | 0, x, y, h => h.elim (fun q => .inl ⟨q.1.symm, by rw [q.1]; exact q.2⟩) fun ⟨p, q, xs, ys, e1, e2, o, l, m, r⟩ => .inr ⟨q, p, ys, xs, e2, e1, o.elim (fun z => .inl ⟨z.2, z.1⟩) (fun z => .inr ⟨z.2, z.1⟩), l.symm, by omega, fun i a b ea eb => (r i b a eb ea).elim⟩
  | n + 1, x, y, h => h.elim (fun q => .inl ⟨q.1.symm, by rw [q.1]; exact q.2⟩) fun ⟨p, q, xs, ys, e1, e2, o, l, m, r⟩ => .inr ⟨q, p, ys, xs, e2, e1, o.elim (fun z => .inl ⟨z.2, z.1⟩) (fun z => .inr ⟨z.2, z.1⟩), l.symm, by omega, fun i a b ea eb => SameD.symm (r i b a eb ea)⟩
end Lb

namespace GQ
open PySem PySem.Spec PyProof.Rows L2 Lb
variable [Tabl] {X : Cx}
theorem elt_or {P : Addr} {h1 : Heap} {scope : Scope} {x : Str} {e1 e2 : Expr} {pos : Pos} {p1 p2 : Nat → Bool} (a : Elt X P h1 scope x e1 p1) (b : Elt X P h1 scope x e2 p2) : Elt X P h1 scope x (.BoolOp .Or [e1, e2] pos) (fun c => p1 c || p2 c) := by
  intro env A' E' c t r m hs hcl hg hA hn hx keep
  refine wpAny_Or2 (thn (a env A' E' c t r m hs hcl hg hA hn hx keep) fun v r1 ⟨e, k⟩ => ?_)
  subst e
  refine wpAny_truthy_bool ?_
  cases hp : p1 c with
  | true => exact ⟨by show Value.bool true = Value.bool (p1 c || p2 c); rw [hp, Bool.true_or], k⟩
  | false =>
    obtain ⟨h', tk, rfl, kk⟩ := k
    refine thn (b env A' E' c t _ m hs hcl hg hA (hn.at fun o e => kk _ o e) hx (fun b u n e => kk _ _ (keep b u n e))) fun v r2 ⟨e, k2⟩ => ?_
    subst e
    obtain ⟨h2, tk2, rfl, kk2⟩ := k2
    exact ⟨by show Value.bool (p2 c) = Value.bool (p1 c || p2 c); rw [hp, Bool.false_or], h2, tk2, rfl, fun b o e => kk2 _ _ (kk _ _ e)⟩
def tAllG2 (z u : Str) (te : TE) : TE := fun σ H Q => te σ H fun v H1 => ∃ a : Str, v = .str a ∧ Lb.Good H1 ∧ ∀ H2, Lb.Same H1 H2 → Q (.bl (a.cps.toList.all fun c => decide (c ∈ z.cps.toList) || decide (c ∈ u.cps.toList))) H2
def CnGl2 (z u : Str) : L2.St → Hp → (Nat → Bool) → Prop := fun _ _ pb => pb = fun c => decide (c ∈ z.cps.toList) || decide (c ∈ u.cps.toList)
theorem pe_allG2 {c P : Addr} {iter : Expr} {x y yy : Str} {px p pos gpos p1 p2 p3 p4 p5 p6 p7 : Pos} {scope : Scope} {te : TE} {k : Nat} {z u : Str} {tz tu : Tok}
    (hr : Room k X.A) (hm : X.mg "all" = none) (hmy : X.mg y = some (.str z tz)) (hmyy : X.mg yy = some (.str u tu)) (TB : LamX.TabB X.base X.mg c P) (hmem : (P, X.env.qual ++ "<genexpr>") ∈ Tabl.T) (hcode : X.env.code = .ref c) (B : GenB X.env.scope scope x) (hi : PE X iter te)
    (hg : Gl X "all" := by rfl) (hy : scope.names.lookup y = some .globalImplicit := by rfl) (hyy : scope.names.lookup yy = some .globalImplicit := by rfl) (hs : ∀ v, genFold iter X.env v = pure v := by intro _; rfl) (hd : (x == ("__debug__" : Str)) = false := by decide) (hd' : (y == ("__debug__" : Str)) = false := by decide) (hd2 : (yy == ("__debug__" : Str)) = false := by decide)
    (he : starEach [.GeneratorExp (.BoolOp .Or [.Compare (.Name x p1) [.In] [.Name y p2] p3, .Compare (.Name x p4) [.In] [.Name yy p5] p6] p7) [⟨.Name x px, iter, [], 0⟩] scope gpos] X.env = (false, eval (.GeneratorExp (.BoolOp .Or [.Compare (.Name x p1) [.In] [.Name y p2] p3, .Compare (.Name x p4) [.In] [.Name yy p5] p6] p7) [⟨.Name x px, iter, [], 0⟩] scope gpos) X.env) :: starEach [] X.env := by rfl) :
    PE X (.Call (.Name "all" p) [.GeneratorExp (.BoolOp .Or [.Compare (.Name x p1) [.In] [.Name y p2] p3, .Compare (.Name x p4) [.In] [.Name yy p5] p6] p7) [⟨.Name x px, iter, [], 0⟩] scope gpos] [] pos) (tAllG2 z u te) := by
  refine ⟨fun pins s σ H Q I h => ?_⟩
  have S := B.S I.ok
  refine (pe_all (Cn := CnGl2 z u) hr hg hm TB hmem hcode S (pe_weak hi) (fun pins σ H1 s1 pb I1 _ cn => ?_) hs (he := he)).run pins s σ H Q I ⟨_, h, fun v H1 q => ?_⟩
  · cases cn
    exact elt_or (elt_glob S hy hmy TB.gP I1 rfl hd hd') (elt_glob S hyy hmyy TB.gP I1 rfl hd hd2)
  · obtain ⟨a, e1, e2, e3⟩ := q
    exact ⟨a, _, e1, e2, rfl, e3⟩
end GQ

namespace Lb
open PySem PySem.Spec PyProof.Rows L2
/-! ### lists of texts -/
theorem deepN_str {H : Hp} : ∀ {n : Nat} {x : Str}, x.length ≤ 1000000 → DeepN (n + 1) H (.str x) := fun {n x} l => .inl ⟨rfl, fun y e => by cases e; exact l⟩
theorem deepN_strs {H : Hp} {p : Addr} {xs : List Str} (e : H p = some (.lst (xs.map V.str))) (l : xs.length ≤ 1000000) (t : ∀ x ∈ xs, x.length ≤ 1000000) : DeepN 9 H (.ref p) :=
  .inr ⟨p, _, rfl, .inl e, by rw [List.length_map]; exact l, fun v hv => by
    obtain ⟨x, hx, rfl⟩ := List.mem_map.mp hv
    exact deepN_str (t x hx)⟩
theorem same_str {H : Hp} {n : Nat} {x : Str} : SameD (n + 1) H (.str x) (.str x) := .inl ⟨rfl, rfl⟩
theorem same_strs {H : Hp} {p q : Addr} {xs : List Str} (e : H p = some (.lst (xs.map V.str))) (e' : H q = some (.lst (xs.map V.str))) (l : xs.length ≤ 1000000) : SameD 9 H (.ref p) (.ref q) :=
  .inr ⟨p, q, _, _, rfl, rfl, .inr ⟨e, e'⟩, rfl, by rw [List.length_map]; exact l, fun i x y hx hy => by
    rw [hx] at hy
    cases hy
    obtain ⟨z, _, rfl⟩ := List.mem_map.mp (List.mem_of_getElem? hx)
    exact same_str⟩
theorem map_str_inj : ∀ {xs ys : List Str}, xs.map V.str = ys.map V.str → xs = ys
  | [], [], _ => rfl
  | [], _ :: _, h => by cases h
  | _ :: _, [], h => by cases h
  | x :: xs, y :: ys, h => by
    rw [List.map_cons, List.map_cons] at h
    injection h with h1 h2
    rw [V.str.inj h1, map_str_inj h2]
open SetQ
theorem bef_irrefl {x : Str} (h : Bef x x) : False := by
  rcases h with h | h
  · omega
  · exact List.lt_irrefl _ h.2
theorem bef_kLt {x y : Str} : MinQ.kLt x y = true ↔ Bef x y := MinQ.kLt_true
theorem bef_trans {x y z : Str} (h : Bef x y) (k : Bef y z) : Bef x z := bef_kLt.mp (MinQ.kLt_trans (bef_kLt.mpr h) (bef_kLt.mpr k))
theorem bef_nodup {ws : List Str} (h : ws.Pairwise Bef) : ws.Nodup := h.imp fun {a b} q e => by
  subst e
  exact bef_irrefl q
theorem erase_map {α β : Type} (f : α → β) : ∀ (l : List α) (i : Nat), (l.map f).eraseIdx i = (l.eraseIdx i).map f
  | [], _ => rfl
  | x :: l, 0 => rfl
  | x :: l, i + 1 => by
    show f x :: (l.map f).eraseIdx i = _
    rw [erase_map f l i]
    rfl
theorem erase_perm {α : Type} : ∀ (l : List α) (i : Nat) (h : i < l.length), (l[i] :: l.eraseIdx i).Perm l
  | x :: l, 0, _ => .refl _
  | x :: l, i + 1, h => (List.Perm.swap x _ _).trans ((erase_perm l i (Nat.lt_of_succ_lt_succ h)).cons x)
theorem call_isiKK {X : Cx} (K : PySem.W.Frag) (h : X.K = K) : CallR X (.builtin "isinstance") (rIsi K) := by
  subst h
  exact call_isi
theorem pick_all {α : Type} (xs : List α) : ((List.range xs.length).filterMap fun j => xs[j]?) = xs := by
  induction xs with
  | nil => rfl
  | cons x xs ih =>
    rw [List.length_cons, List.range_succ_eq_map, List.filterMap_cons]
    show x :: ((List.range xs.length).map Nat.succ).filterMap (fun j => (x :: xs)[j]?) = x :: xs
    rw [List.filterMap_map]
    exact congrArg (List.cons x) ih
theorem in_strs {x : Str} {xs : List Str} (h : x ∈ xs) : inV (.str x) (xs.map V.str) = true := List.any_eq_true.mpr ⟨.str x, List.mem_map_of_mem h, by simp [eqV]⟩
theorem flat_strs (xs : List Str) : (xs.map V.str).all flatV = true := List.all_eq_true.mpr fun v hv => by
  obtain ⟨x, _, rfl⟩ := List.mem_map.mp hv
  rfl
theorem atI_neg1 {α : Type} {xs : List α} {v : α} (h : xs[xs.length - 1]? = some v) : atI xs (-1) = some v := by
  have ne : xs ≠ [] := fun e => by rw [e] at h; cases h
  have e := List.dropLast_concat_getLast ne
  have l : xs.getLast ne = v := by
    rw [List.getLast_eq_getElem]
    exact Option.some.inj ((List.getElem?_eq_getElem _).symm.trans h)
  rw [← e, l]
  exact atI_last _ _
theorem asg_go {x : V} {i : Nat} {S : TS} {D : Ends} {σ : L2.St} {H : Hp} (h : S D (σ.set i (some x)) H) : tSeq (tAsg (tC x) (gName i)) S D σ H := h
def strOf : V → Str
  | .str x => x
  | _ => ⟨#[]⟩
theorem perm_strs {ys : List V} {xs : List Str} (h : ys.Perm (xs.map V.str)) : ∃ ws : List Str, ys = ws.map V.str ∧ ws.Perm xs := by
  refine ⟨ys.map strOf, ?_, ?_⟩
  · rw [List.map_map]
    refine (List.map_id ys).symm.trans (List.map_congr_left fun y hy => ?_)
    obtain ⟨x, _, rfl⟩ := List.mem_map.mp (h.mem_iff.mp hy)
    rfl
  · have q := h.map strOf
    rw [List.map_map] at q
    have e : xs.map (strOf ∘ V.str) = xs := (List.map_congr_left fun x _ => rfl).trans (List.map_id xs)
    rw [e] at q
    exact q
/-- two rows in order with the same words are one row -/
theorem bef_unique : ∀ {us ws : List Str}, us.Pairwise Bef → ws.Pairwise Bef → (∀ y, y ∈ us ↔ y ∈ ws) → us = ws
  | [], [], _, _, _ => rfl
  | [], w :: ws, _, _, m => absurd ((m w).mpr List.mem_cons_self) List.not_mem_nil
  | u :: us, [], _, _, m => absurd ((m u).mp List.mem_cons_self) List.not_mem_nil
  | u :: us, w :: ws, hu, hw, m => by
    obtain ⟨u1, u2⟩ := List.pairwise_cons.mp hu
    obtain ⟨w1, w2⟩ := List.pairwise_cons.mp hw
    have e : u = w := by
      rcases List.mem_cons.mp ((m u).mp List.mem_cons_self) with q | q
      · exact q
      · rcases List.mem_cons.mp ((m w).mpr List.mem_cons_self) with k | k
        · exact k.symm
        · exact (bef_irrefl (bef_trans (w1 u q) (u1 w k))).elim
    subst e
    have ih := bef_unique u2 w2 fun y => ⟨fun h => ?_, fun h => ?_⟩
    · rw [ih]
    · rcases List.mem_cons.mp ((m y).mp (List.mem_cons_of_mem _ h)) with q | q
      · rw [q] at h
        exact (bef_irrefl (u1 _ h)).elim
      · exact q
    · rcases List.mem_cons.mp ((m y).mpr (List.mem_cons_of_mem _ h)) with q | q
      · rw [q] at h
        exact (bef_irrefl (w1 _ h)).elim
      · exact q
/-- the least of a row in order stands first -/
theorem head_least {ws : List Str} {x w : Str} (h : ws.Pairwise Bef) (mx : x ∈ ws) (hw : ws[0]? = some w) (least : ∀ y ∈ ws, MinQ.kLt y x = false) : x = w := by
  cases ws with
  | nil => cases mx
  | cons u us =>
    have e0 : u = w := Option.some.inj hw
    subst e0
    rcases List.mem_cons.mp mx with e | e
    · exact e
    · have b := (List.pairwise_cons.mp h).1 x e
      have := least u List.mem_cons_self
      rw [bef_kLt.mpr b] at this
      cases this
end Lb

namespace Lb
open PySem PySem.Spec PyProof.Rows L2
def topS (i : Nat) : Stmt := PySem.Challenge.pw_lagbound_k04_words_in_order.main.body.getD i (.Pass ⟨0, 0, 0, 0⟩)
abbrev s_is_whole : Stmt := topS 1
theorem sc_is_whole : FnScope ["value"] ["value"] (defScope s_is_whole) := ⟨rfl, rfl, rfl, by decide +kernel, rfl, by decide +kernel, by decide +kernel⟩
abbrev s_in_range : Stmt := topS 2
theorem sc_in_range : FnScope ["value", "low", "high"] ["value", "low", "high"] (defScope s_in_range) := ⟨rfl, rfl, rfl, by decide +kernel, rfl, by decide +kernel, by decide +kernel⟩
abbrev s_check_number : Stmt := topS 9
theorem sc_check_number : FnScope ["value", "low", "high"] ["value", "low", "high"] (defScope s_check_number) := ⟨rfl, rfl, rfl, by decide +kernel, rfl, by decide +kernel, by decide +kernel⟩
abbrev s_is_letters : Stmt := topS 15
theorem sc_is_letters : FnScope ["value"] ["value"] (defScope s_is_letters) := ⟨rfl, rfl, rfl, by decide +kernel, rfl, by decide +kernel, by decide +kernel⟩
abbrev s_is_word : Stmt := topS 16
theorem sc_is_word : FnScope ["letters", "value"] ["letters", "value"] (defScope s_is_word) := ⟨rfl, rfl, rfl, by decide +kernel, rfl, by decide +kernel, by decide +kernel⟩
abbrev s_is_word_up_to : Stmt := topS 17
theorem sc_is_word_up_to : FnScope ["letters", "value", "most"] ["letters", "value", "most"] (defScope s_is_word_up_to) := ⟨rfl, rfl, rfl, by decide +kernel, rfl, by decide +kernel, by decide +kernel⟩
abbrev s_check_letters : Stmt := topS 18
theorem sc_check_letters : FnScope ["letters"] ["letters"] (defScope s_check_letters) := ⟨rfl, rfl, rfl, by decide +kernel, rfl, by decide +kernel, by decide +kernel⟩
abbrev s_word_key : Stmt := topS 19
theorem sc_word_key : FnScope ["word"] ["word"] (defScope s_word_key) := ⟨rfl, rfl, rfl, by decide +kernel, rfl, by decide +kernel, by decide +kernel⟩
abbrev s_sort_words : Stmt := topS 20
theorem sc_sort_words : FnScope ["words"] ["words"] (defScope s_sort_words) := ⟨rfl, rfl, rfl, by decide +kernel, rfl, by decide +kernel, by decide +kernel⟩
abbrev s_first_word : Stmt := topS 21
theorem sc_first_word : FnScope ["words"] ["words"] (defScope s_first_word) := ⟨rfl, rfl, rfl, by decide +kernel, rfl, by decide +kernel, by decide +kernel⟩
abbrev s_all_words : Stmt := topS 22
theorem sc_all_words : FnScope ["letters", "most", "words", "longest", "_", "word", "letter"] ["letters", "most"] (defScope s_all_words) := ⟨rfl, rfl, rfl, by decide +kernel, rfl, by decide +kernel, by decide +kernel⟩
abbrev s_turn_word : Stmt := topS 23
theorem sc_turn_word : FnScope ["word"] ["word"] (defScope s_turn_word) := ⟨rfl, rfl, rfl, by decide +kernel, rfl, by decide +kernel, by decide +kernel⟩
abbrev s_show_word : Stmt := topS 24
theorem sc_show_word : FnScope ["word"] ["word"] (defScope s_show_word) := ⟨rfl, rfl, rfl, by decide +kernel, rfl, by decide +kernel, by decide +kernel⟩
abbrev s_shown_word : Stmt := topS 25
theorem sc_shown_word : FnScope ["letters", "text", "most"] ["letters", "text", "most"] (defScope s_shown_word) := ⟨rfl, rfl, rfl, by decide +kernel, rfl, by decide +kernel, by decide +kernel⟩
abbrev s_read_shown : Stmt := topS 26
theorem sc_read_shown : FnScope ["letters", "text", "word"] ["letters", "text"] (defScope s_read_shown) := ⟨rfl, rfl, rfl, by decide +kernel, rfl, by decide +kernel, by decide +kernel⟩
abbrev s_mix : Stmt := topS 28
theorem sc_mix : FnScope ["number", "tick", "one", "two"] ["number", "tick"] (defScope s_mix) := ⟨rfl, rfl, rfl, by decide +kernel, rfl, by decide +kernel, by decide +kernel⟩
abbrev s_store : Stmt := topS 29
theorem sc_store : FnScope ["script", "seed", "cell"] ["script"] (defScope s_store) := ⟨rfl, rfl, rfl, by decide +kernel, rfl, by decide +kernel, by decide +kernel⟩
abbrev s_take : Stmt := topS 30
theorem sc_take : FnScope ["store", "many", "cells", "cell", "digit"] ["store", "many"] (defScope s_take) := ⟨rfl, rfl, rfl, by decide +kernel, rfl, by decide +kernel, by decide +kernel⟩
abbrev s_pick : Stmt := topS 31
theorem sc_pick : FnScope ["store", "row"] ["store", "row"] (defScope s_pick) := ⟨rfl, rfl, rfl, by decide +kernel, rfl, by decide +kernel, by decide +kernel⟩
abbrev s_between : Stmt := topS 32
theorem sc_between : FnScope ["store", "low", "high", "draw"] ["store", "low", "high"] (defScope s_between) := ⟨rfl, rfl, rfl, by decide +kernel, rfl, by decide +kernel, by decide +kernel⟩
abbrev s_order : Stmt := topS 33
theorem sc_order : FnScope ["store", "size", "left", "row", "k"] ["store", "size"] (defScope s_order) := ⟨rfl, rfl, rfl, by decide +kernel, rfl, by decide +kernel, by decide +kernel⟩
abbrev s_turned : Stmt := topS 34
theorem sc_turned : FnScope ["store", "row", "k"] ["store", "row"] (defScope s_turned) := ⟨rfl, rfl, rfl, by decide +kernel, rfl, by decide +kernel, by decide +kernel⟩
abbrev s_letters : Stmt := topS 35
theorem sc_letters : FnScope ["store", "limit", "size", "every", "draw", "at", "word", "k"] ["store", "limit"] (defScope s_letters) := ⟨rfl, rfl, rfl, by decide +kernel, rfl, by decide +kernel, by decide +kernel⟩
abbrev s_word : Stmt := topS 36
theorem sc_word : FnScope ["store", "letters", "limit", "draw", "size", "k"] ["store", "letters", "limit"] (defScope s_word) := ⟨rfl, rfl, rfl, by decide +kernel, rfl, by decide +kernel, by decide +kernel⟩
abbrev s_long_word : Stmt := topS 37
theorem sc_long_word : FnScope ["store", "letters", "size", "piece", "word", "at"] ["store", "letters", "size"] (defScope s_long_word) := ⟨rfl, rfl, rfl, by decide +kernel, rfl, by decide +kernel, by decide +kernel⟩
abbrev s_unlike_word : Stmt := topS 38
theorem sc_unlike_word : FnScope ["store", "letters", "word", "draw", "at", "x"] ["store", "letters", "word"] (defScope s_unlike_word) := ⟨rfl, rfl, rfl, by decide +kernel, rfl, by decide +kernel, by decide +kernel⟩
abbrev s_words : Stmt := topS 39
theorem sc_words : FnScope ["store", "letters", "size", "limit", "row", "k", "word"] ["store", "letters", "size", "limit"] (defScope s_words) := ⟨rfl, rfl, rfl, by decide +kernel, rfl, by decide +kernel, by decide +kernel⟩
abbrev s_same : Stmt := topS 40
theorem sc_same : FnScope ["actual", "expected", "k"] ["actual", "expected"] (defScope s_same) := ⟨rfl, rfl, rfl, by decide +kernel, rfl, by decide +kernel, by decide +kernel⟩
abbrev s_lists : Stmt := topS 41
theorem sc_lists : FnScope ["value", "rows", "item"] ["value"] (defScope s_lists) := ⟨rfl, rfl, rfl, by decide +kernel, rfl, by decide +kernel, by decide +kernel⟩
abbrev s_wreck : Stmt := topS 42
theorem sc_wreck : FnScope ["value", "row"] ["value"] (defScope s_wreck) := ⟨rfl, rfl, rfl, by decide +kernel, rfl, by decide +kernel, by decide +kernel⟩
abbrev s_next_word : Stmt := topS 43
theorem sc_next_word : FnScope ["letters", "word", "k", "at", "place"] ["letters", "word"] (defScope s_next_word) := ⟨rfl, rfl, rfl, by decide +kernel, rfl, by decide +kernel, by decide +kernel⟩
abbrev s_before : Stmt := topS 44
theorem sc_before : FnScope ["one", "two"] ["one", "two"] (defScope s_before) := ⟨rfl, rfl, rfl, by decide +kernel, rfl, by decide +kernel, by decide +kernel⟩
abbrev s_list_of_words : Stmt := topS 45
theorem sc_list_of_words : FnScope ["value", "x"] ["value"] (defScope s_list_of_words) := ⟨rfl, rfl, rfl, by decide +kernel, rfl, by decide +kernel, by decide +kernel⟩
abbrev s_sorted_right : Stmt := topS 46
theorem sc_sorted_right : FnScope ["words", "kept", "row", "k", "head", "told", "x"] ["words"] (defScope s_sorted_right) := ⟨rfl, rfl, rfl, by decide +kernel, rfl, by decide +kernel, by decide +kernel⟩
abbrev s_all_right : Stmt := topS 47
theorem sc_all_right : FnScope ["letters", "limit", "row", "k", "told"] ["letters", "limit"] (defScope s_all_right) := ⟨rfl, rfl, rfl, by decide +kernel, rfl, by decide +kernel, by decide +kernel⟩
abbrev s_turned_right : Stmt := topS 48
theorem sc_turned_right : FnScope ["word", "back", "letter"] ["word"] (defScope s_turned_right) := ⟨rfl, rfl, rfl, by decide +kernel, rfl, by decide +kernel, by decide +kernel⟩
abbrev s_shown_right : Stmt := topS 49
theorem sc_shown_right : FnScope ["letters", "word", "shown"] ["letters", "word"] (defScope s_shown_right) := ⟨rfl, rfl, rfl, by decide +kernel, rfl, by decide +kernel, by decide +kernel⟩
abbrev s_law : Stmt := topS 50
theorem sc_law : FnScope ["script", "store", "letters", "signs", "words", "limit", "word"] ["script"] (defScope s_law) := ⟨rfl, rfl, rfl, by decide +kernel, rfl, by decide +kernel, by decide +kernel⟩
abbrev si_BadLetters : Stmt := inCls (topS 5) 0
theorem sci_BadLetters : FnScope ["self", "value"] ["self", "value"] (defScope si_BadLetters) := ⟨rfl, rfl, rfl, by decide +kernel, rfl, by decide +kernel, by decide +kernel⟩
abbrev si_BadWord : Stmt := inCls (topS 6) 0
theorem sci_BadWord : FnScope ["self", "value"] ["self", "value"] (defScope si_BadWord) := ⟨rfl, rfl, rfl, by decide +kernel, rfl, by decide +kernel, by decide +kernel⟩
abbrev si_BadNumber : Stmt := inCls (topS 7) 0
theorem sci_BadNumber : FnScope ["self", "value"] ["self", "value"] (defScope si_BadNumber) := ⟨rfl, rfl, rfl, by decide +kernel, rfl, by decide +kernel, by decide +kernel⟩
structure Txt [Tabl] (K : PySem.W.Frag) (mg : Str → Option Value) (base : Heap) where
  f_is_whole : Addr
  fd_is_whole : FuncData
  F_is_whole : Fun K "is_whole" "is_whole" s_is_whole f_is_whole fd_is_whole
  b_is_whole : Binds K fd_is_whole ["value"] []
  g_is_whole : mg "is_whole" = some (.ref f_is_whole)
  f_in_range : Addr
  fd_in_range : FuncData
  F_in_range : Fun K "in_range" "in_range" s_in_range f_in_range fd_in_range
  b_in_range : Binds K fd_in_range ["value", "low", "high"] []
  g_in_range : mg "in_range" = some (.ref f_in_range)
  f_check_number : Addr
  fd_check_number : FuncData
  F_check_number : Fun K "check_number" "check_number" s_check_number f_check_number fd_check_number
  b_check_number : Binds K fd_check_number ["value", "low", "high"] []
  g_check_number : mg "check_number" = some (.ref f_check_number)
  f_is_letters : Addr
  fd_is_letters : FuncData
  C_is_letters : Addr
  P_is_letters : Addr
  F_is_letters : FunC K "is_letters" "is_letters" s_is_letters f_is_letters fd_is_letters C_is_letters
  B_is_letters : LamX.TabB base mg C_is_letters P_is_letters
  m_is_letters : (P_is_letters, (Str.ofString "is_letters" ++ ".<locals>.") ++ "<genexpr>") ∈ Tabl.T
  b_is_letters : Binds K fd_is_letters ["value"] []
  g_is_letters : mg "is_letters" = some (.ref f_is_letters)
  f_is_word : Addr
  fd_is_word : FuncData
  C_is_word : Addr
  P_is_word : Addr
  F_is_word : FunC K "is_word" "is_word" s_is_word f_is_word fd_is_word C_is_word
  B_is_word : LamX.TabB base mg C_is_word P_is_word
  m_is_word : (P_is_word, (Str.ofString "is_word" ++ ".<locals>.") ++ "<genexpr>") ∈ Tabl.T
  b_is_word : Binds K fd_is_word ["letters", "value"] []
  g_is_word : mg "is_word" = some (.ref f_is_word)
  f_is_word_up_to : Addr
  fd_is_word_up_to : FuncData
  F_is_word_up_to : Fun K "is_word_up_to" "is_word_up_to" s_is_word_up_to f_is_word_up_to fd_is_word_up_to
  b_is_word_up_to : Binds K fd_is_word_up_to ["letters", "value", "most"] []
  g_is_word_up_to : mg "is_word_up_to" = some (.ref f_is_word_up_to)
  f_check_letters : Addr
  fd_check_letters : FuncData
  F_check_letters : Fun K "check_letters" "check_letters" s_check_letters f_check_letters fd_check_letters
  b_check_letters : Binds K fd_check_letters ["letters"] []
  g_check_letters : mg "check_letters" = some (.ref f_check_letters)
  f_word_key : Addr
  fd_word_key : FuncData
  F_word_key : Fun K "word_key" "word_key" s_word_key f_word_key fd_word_key
  b_word_key : Binds K fd_word_key ["word"] []
  g_word_key : mg "word_key" = some (.ref f_word_key)
  f_sort_words : Addr
  fd_sort_words : FuncData
  F_sort_words : Fun K "sort_words" "sort_words" s_sort_words f_sort_words fd_sort_words
  b_sort_words : Binds K fd_sort_words ["words"] []
  g_sort_words : mg "sort_words" = some (.ref f_sort_words)
  f_first_word : Addr
  fd_first_word : FuncData
  F_first_word : Fun K "first_word" "first_word" s_first_word f_first_word fd_first_word
  b_first_word : Binds K fd_first_word ["words"] []
  g_first_word : mg "first_word" = some (.ref f_first_word)
  f_all_words : Addr
  fd_all_words : FuncData
  F_all_words : Fun K "all_words" "all_words" s_all_words f_all_words fd_all_words
  b_all_words : Binds K fd_all_words ["letters", "most"] []
  g_all_words : mg "all_words" = some (.ref f_all_words)
  f_turn_word : Addr
  fd_turn_word : FuncData
  F_turn_word : Fun K "turn_word" "turn_word" s_turn_word f_turn_word fd_turn_word
  b_turn_word : Binds K fd_turn_word ["word"] []
  g_turn_word : mg "turn_word" = some (.ref f_turn_word)
  f_show_word : Addr
  fd_show_word : FuncData
  F_show_word : Fun K "show_word" "show_word" s_show_word f_show_word fd_show_word
  b_show_word : Binds K fd_show_word ["word"] []
  g_show_word : mg "show_word" = some (.ref f_show_word)
  f_shown_word : Addr
  fd_shown_word : FuncData
  F_shown_word : Fun K "shown_word" "shown_word" s_shown_word f_shown_word fd_shown_word
  b_shown_word : Binds K fd_shown_word ["letters", "text", "most"] []
  g_shown_word : mg "shown_word" = some (.ref f_shown_word)
  f_read_shown : Addr
  fd_read_shown : FuncData
  F_read_shown : Fun K "read_shown" "read_shown" s_read_shown f_read_shown fd_read_shown
  b_read_shown : Binds K fd_read_shown ["letters", "text"] []
  g_read_shown : mg "read_shown" = some (.ref f_read_shown)
  f_mix : Addr
  fd_mix : FuncData
  F_mix : Fun K "_law_mix" "_law_mix" s_mix f_mix fd_mix
  b_mix : Binds K fd_mix ["number", "tick"] []
  g_mix : mg "_law_mix" = some (.ref f_mix)
  f_store : Addr
  fd_store : FuncData
  F_store : Fun K "_law_store" "_law_store" s_store f_store fd_store
  b_store : Binds K fd_store ["script"] []
  g_store : mg "_law_store" = some (.ref f_store)
  f_take : Addr
  fd_take : FuncData
  F_take : Fun K "_law_take" "_law_take" s_take f_take fd_take
  b_take : Binds K fd_take ["store", "many"] []
  g_take : mg "_law_take" = some (.ref f_take)
  f_pick : Addr
  fd_pick : FuncData
  F_pick : Fun K "_law_pick" "_law_pick" s_pick f_pick fd_pick
  b_pick : Binds K fd_pick ["store", "row"] []
  g_pick : mg "_law_pick" = some (.ref f_pick)
  f_between : Addr
  fd_between : FuncData
  F_between : Fun K "_law_between" "_law_between" s_between f_between fd_between
  b_between : Binds K fd_between ["store", "low", "high"] []
  g_between : mg "_law_between" = some (.ref f_between)
  f_order : Addr
  fd_order : FuncData
  F_order : Fun K "_law_order" "_law_order" s_order f_order fd_order
  b_order : Binds K fd_order ["store", "size"] []
  g_order : mg "_law_order" = some (.ref f_order)
  f_turned : Addr
  fd_turned : FuncData
  F_turned : Fun K "_law_turned" "_law_turned" s_turned f_turned fd_turned
  b_turned : Binds K fd_turned ["store", "row"] []
  g_turned : mg "_law_turned" = some (.ref f_turned)
  f_letters : Addr
  fd_letters : FuncData
  F_letters : Fun K "_law_letters" "_law_letters" s_letters f_letters fd_letters
  b_letters : Binds K fd_letters ["store", "limit"] []
  g_letters : mg "_law_letters" = some (.ref f_letters)
  f_word : Addr
  fd_word : FuncData
  F_word : Fun K "_law_word" "_law_word" s_word f_word fd_word
  b_word : Binds K fd_word ["store", "letters", "limit"] []
  g_word : mg "_law_word" = some (.ref f_word)
  f_long_word : Addr
  fd_long_word : FuncData
  F_long_word : Fun K "_law_long_word" "_law_long_word" s_long_word f_long_word fd_long_word
  b_long_word : Binds K fd_long_word ["store", "letters", "size"] []
  g_long_word : mg "_law_long_word" = some (.ref f_long_word)
  f_unlike_word : Addr
  fd_unlike_word : FuncData
  F_unlike_word : Fun K "_law_unlike_word" "_law_unlike_word" s_unlike_word f_unlike_word fd_unlike_word
  b_unlike_word : Binds K fd_unlike_word ["store", "letters", "word"] []
  g_unlike_word : mg "_law_unlike_word" = some (.ref f_unlike_word)
  f_words : Addr
  fd_words : FuncData
  F_words : Fun K "_law_words" "_law_words" s_words f_words fd_words
  b_words : Binds K fd_words ["store", "letters", "size", "limit"] []
  g_words : mg "_law_words" = some (.ref f_words)
  f_same : Addr
  fd_same : FuncData
  F_same : Fun K "_law_same" "_law_same" s_same f_same fd_same
  b_same : Binds K fd_same ["actual", "expected"] []
  g_same : mg "_law_same" = some (.ref f_same)
  f_lists : Addr
  fd_lists : FuncData
  F_lists : Fun K "_law_lists" "_law_lists" s_lists f_lists fd_lists
  b_lists : Binds K fd_lists ["value"] []
  g_lists : mg "_law_lists" = some (.ref f_lists)
  f_wreck : Addr
  fd_wreck : FuncData
  F_wreck : Fun K "_law_wreck" "_law_wreck" s_wreck f_wreck fd_wreck
  b_wreck : Binds K fd_wreck ["value"] []
  g_wreck : mg "_law_wreck" = some (.ref f_wreck)
  f_next_word : Addr
  fd_next_word : FuncData
  F_next_word : Fun K "_law_next_word" "_law_next_word" s_next_word f_next_word fd_next_word
  b_next_word : Binds K fd_next_word ["letters", "word"] []
  g_next_word : mg "_law_next_word" = some (.ref f_next_word)
  f_before : Addr
  fd_before : FuncData
  F_before : Fun K "_law_before" "_law_before" s_before f_before fd_before
  b_before : Binds K fd_before ["one", "two"] []
  g_before : mg "_law_before" = some (.ref f_before)
  f_list_of_words : Addr
  fd_list_of_words : FuncData
  F_list_of_words : Fun K "_law_list_of_words" "_law_list_of_words" s_list_of_words f_list_of_words fd_list_of_words
  b_list_of_words : Binds K fd_list_of_words ["value"] []
  g_list_of_words : mg "_law_list_of_words" = some (.ref f_list_of_words)
  f_sorted_right : Addr
  fd_sorted_right : FuncData
  F_sorted_right : Fun K "_law_sorted_right" "_law_sorted_right" s_sorted_right f_sorted_right fd_sorted_right
  b_sorted_right : Binds K fd_sorted_right ["words"] []
  g_sorted_right : mg "_law_sorted_right" = some (.ref f_sorted_right)
  f_all_right : Addr
  fd_all_right : FuncData
  F_all_right : Fun K "_law_all_right" "_law_all_right" s_all_right f_all_right fd_all_right
  b_all_right : Binds K fd_all_right ["letters", "limit"] []
  g_all_right : mg "_law_all_right" = some (.ref f_all_right)
  f_turned_right : Addr
  fd_turned_right : FuncData
  F_turned_right : Fun K "_law_turned_right" "_law_turned_right" s_turned_right f_turned_right fd_turned_right
  b_turned_right : Binds K fd_turned_right ["word"] []
  g_turned_right : mg "_law_turned_right" = some (.ref f_turned_right)
  f_shown_right : Addr
  fd_shown_right : FuncData
  F_shown_right : Fun K "_law_shown_right" "_law_shown_right" s_shown_right f_shown_right fd_shown_right
  b_shown_right : Binds K fd_shown_right ["letters", "word"] []
  g_shown_right : mg "_law_shown_right" = some (.ref f_shown_right)
  f_law : Addr
  fd_law : FuncData
  F_law : Fun K "law" "law" s_law f_law fd_law
  b_law : Binds K fd_law ["script"] []
  g_law : mg "law" = some (.ref f_law)
  C_LagError : Addr
  E_LagError : ErrT K mg "LagError" C_LagError
  C_BadLetters : Addr
  E_BadLetters : ErrT K mg "BadLetters" C_BadLetters
  I_BadLetters : Addr
  fdI_BadLetters : FuncData
  FI_BadLetters : Fun K "__init__" "BadLetters.__init__" si_BadLetters I_BadLetters fdI_BadLetters
  bI_BadLetters : Binds K fdI_BadLetters ["self", "value"] []
  iI_BadLetters : PySem.W.findIn K (.ref C_BadLetters) "__init__" = some (some (.ref I_BadLetters))
  tI_BadLetters : PySem.W.typeIn K (.ref I_BadLetters) = some (.type "function")
  no_BadLetters_value : PySem.W.findIn K (.ref C_BadLetters) "value" = some none
  C_BadWord : Addr
  E_BadWord : ErrT K mg "BadWord" C_BadWord
  I_BadWord : Addr
  fdI_BadWord : FuncData
  FI_BadWord : Fun K "__init__" "BadWord.__init__" si_BadWord I_BadWord fdI_BadWord
  bI_BadWord : Binds K fdI_BadWord ["self", "value"] []
  iI_BadWord : PySem.W.findIn K (.ref C_BadWord) "__init__" = some (some (.ref I_BadWord))
  tI_BadWord : PySem.W.typeIn K (.ref I_BadWord) = some (.type "function")
  no_BadWord_value : PySem.W.findIn K (.ref C_BadWord) "value" = some none
  C_BadNumber : Addr
  E_BadNumber : ErrT K mg "BadNumber" C_BadNumber
  I_BadNumber : Addr
  fdI_BadNumber : FuncData
  FI_BadNumber : Fun K "__init__" "BadNumber.__init__" si_BadNumber I_BadNumber fdI_BadNumber
  bI_BadNumber : Binds K fdI_BadNumber ["self", "value"] []
  iI_BadNumber : PySem.W.findIn K (.ref C_BadNumber) "__init__" = some (some (.ref I_BadNumber))
  tI_BadNumber : PySem.W.typeIn K (.ref I_BadNumber) = some (.type "function")
  no_BadNumber_value : PySem.W.findIn K (.ref C_BadNumber) "value" = some none
  z_ValueError : mg "ValueError" = none
  z_all : mg "all" = none
  z_bool : mg "bool" = none
  z_int : mg "int" = none
  z_isinstance : mg "isinstance" = none
  z_len : mg "len" = none
  z_list : mg "list" = none
  z_max : mg "max" = none
  z_min : mg "min" = none
  z_range : mg "range" = none
  z_set : mg "set" = none
  z_sorted : mg "sorted" = none
  z_str : mg "str" = none
  z_tuple : mg "tuple" = none
  t_MAX_LETTERS : Tok
  c_MAX_LETTERS : mg "MAX_LETTERS" = some (.int 4 t_MAX_LETTERS)
  t_MAX_READ : Tok
  c_MAX_READ : mg "MAX_READ" = some (.int 4000 t_MAX_READ)
  t_SMALL_LETTERS : Tok
  c_SMALL_LETTERS : mg "SMALL_LETTERS" = some (.str "abcdefghijklmnopqrstuvwxyz" t_SMALL_LETTERS)
  t_MAX_ALL_WORDS : Tok
  c_MAX_ALL_WORDS : mg "MAX_ALL_WORDS" = some (.int 6 t_MAX_ALL_WORDS)
section
variable [Tabl] {P : Program} {w : World} {K : PySem.W.Frag} {mg : Str → Option Value} {base : Heap}
def sp_list_of_words [Tabl] (_ : PySem.W.Frag) : Sp := fun vs H Q _ => ∃ (a : Addr) (xs : List Str), vs = [.ref a] ∧ H a = some (.lst (xs.map V.str)) ∧ ∀ H' : Hp, Same H H' → Q (.bl true) H'
theorem ok_list_of_words (T : Txt K mg base) : FnOk P w K mg base CX0 (0 + 1) T.f_list_of_words T.fd_list_of_words ["value"] (sp_list_of_words K) := by
  refine T.F_list_of_words.ok sc_list_of_words (fun vs H Q E h => ?_) (fun cdv A outer s H vs Q E hr h => ?_)
  · obtain ⟨a, xs, rfl, _⟩ := h
    rfl
  · obtain ⟨a, xs, rfl, ha, q⟩ := h
    refine ⟨_, (pss_cons (ps_if (pt_not (pt_val (pe_callB call_isi (by rfl) T.z_isinstance (by decide +kernel) (pa_cons (pv 0) (pa_cons (pe_bltn (v := .ty "list") (by rfl) T.z_list (by decide +kernel) rfl) pa_nil))))) (pss_one (ps_ret pe_bl)) pss_nil)
      (pss_one (ps_ret (pe_cmpR op_eq (pe_callB call_len_seq (by rfl) T.z_len PySem.boot_len (pa_cons (pe_lc (own := [("x", 1)]) (g := gName 1) rfl sc_list_of_words.nd (pi_list (pv 0)) (blkOk_by (N := ["value", "x"]) (sc := defScope s_list_of_words) (by decide +kernel)) (fun _ _ _ _ _ => pg_name (i := 1) sc_list_of_words.nd rfl (Or.inl rfl)) (fun _ _ _ _ _ => (pts_one (pt_not (pt_val (pe_callB (call_isiKK K rfl) (by rfl) T.z_isinstance (by decide +kernel) (pa_cons (pv 1) (pa_cons (pe_bltn (v := .ty "str") (by rfl) T.z_str (by decide +kernel) rfl) pa_nil))))))) (fun _ _ _ _ _ => (pv 1))) pa_nil)) pe_int (nomark _))))), ?_⟩
    refine ⟨_, rfl, _, _, _, _, true, rfl, .ty _, .base (.lst ha), kit_ty (by decide +kernel), _, rfl, iteN rfl ?_⟩
    refine ⟨_, rfl, a, rfl, ⟨_, .inl (.inl ha)⟩, fun D nD => ?_⟩
    refine lc_list (K := K) (a := a) (xs := xs.map V.str) (fun i H' => Same H H' ∧ H' D = some (.lst [])) ⟨same_new nD, upd_same⟩ (fun i H' _ h => .inl (.inl (h.1 _ _ ha))) ?_ ?_
    · rintro i v H1 hv ⟨s1, hD⟩
      obtain ⟨x, _, rfl⟩ := List.mem_map.mp (List.mem_of_getElem? hv)
      exact ⟨rfl, _, rfl, _, _, _, _, true, rfl, .ty _, .base (.str x), kit_ty (by decide +kernel), _, rfl, iteF ⟨s1, hD⟩⟩
    · rintro H1 ⟨s1, hD⟩
      exact ⟨D, _, rfl, .inl (.inl (.inl hD)), rfl, q H1 s1⟩

def sp_next_word (_ : PySem.W.Frag) : Sp := fun vs H Q _ => ∃ z x : Str, vs = [.str z, .str x] ∧ IsAlpha z ∧ Over z x ∧ x.length ≤ 4000 ∧ ∀ y : Str, Over z y → y.length ≤ x.length + 1 → num z (cs y) = num z (cs x) + 1 → Q (.str y) H
theorem ok_next_word (T : Txt K mg base) : FnOk P w K mg base CX0 (0 + 1) T.f_next_word T.fd_next_word ["letters", "word"] (sp_next_word K) := by
  refine T.F_next_word.ok sc_next_word (fun vs H Q E h => ?_) (fun cdv A outer s H vs Q E hr h => ?_)
  · obtain ⟨z, x, rfl, _⟩ := h
    rfl
  · obtain ⟨z, x, rfl, al, ox, lx, q⟩ := h
    refine ⟨_, (pss_cons (ps_for PassesOwn.never rfl (pi_range1 (by rfl) T.z_range (pa_cons (pe_callB call_len_str (by rfl) T.z_len PySem.boot_len (pa_cons (pv 1) pa_nil)) pa_nil)) (pg_name (i := 2) sc_next_word.nd rfl (.inl rfl)) (pss_cons (ps_set (i := 3) sc_next_word.nd rfl (.inl rfl) (pe_op op_sub (pe_op op_sub (pe_callB call_len_str (by rfl) T.z_len PySem.boot_len (pa_cons (pv 1) pa_nil)) pe_int) (pv 2)))
      (pss_cons (ps_set (i := 4) sc_next_word.nd rfl (.inl rfl) (pe_op op_add (pe_bmS PySem.F.plainAttrs_str PySem.F.slot_str_index PySem.F.type_str_index (mt_indexX rfl LamX.takes0) (pv 0) (pa_cons (pe_ix ix_str (pv 1) (pv 3) (fun _ _ => rfl)) pa_nil)) pe_int))
      (pss_one (ps_if (pt_cmpR op_lt (pv 4) (pe_callB call_len_str (by rfl) T.z_len PySem.boot_len (pa_cons (pv 0) pa_nil)) (nomark _)) (pss_one (ps_ret (pe_op op_add_str (pe_op op_add_str (pe_slice sl_str (pv 1) po_none (po_some (pv 3))) (pe_ix ix_str (pv 0) (pv 4) (fun _ _ => rfl))) (pe_op op_rep_str (pe_ix ix_str (pv 0) pe_int (fun _ _ => rfl)) (pv 2))))) pss_nil)))))
      (pss_one (ps_ret (pe_op op_rep_str (pe_ix ix_str (pv 0) pe_int (fun _ _ => rfl)) (pe_op op_add (pe_callB call_len_str (by rfl) T.z_len PySem.boot_len (pa_cons (pv 1) pa_nil)) pe_int))))), ?_⟩
    have kk : (cs z).length = z.length := cs_len z
    have k1 : 1 ≤ (cs z).length := by
      rw [kk]
      exact al.len1
    obtain ⟨c0, h0⟩ : ∃ c, (cs z)[0]? = some c := ⟨_, List.getElem?_eq_getElem k1⟩
    have m0 : c0 ∈ cs z := List.mem_of_getElem? h0
    have p0 : pl z c0 = 0 := pl_at al.nodup h0
    have sz := small_text al.small
    refine ⟨_, rfl, x, rfl, small_text (by omega), (x.length : Int), rfl, by omega, by omega, ?_⟩
    refine for_range (lo := 0) (n := (x.length : Int).toNat) (fun i σ H' => ∃ a b c : Option V, σ = [some (.str z), some (.str x), a, b, c] ∧ H' = H ∧ num z ((cs x).drop (x.length - i)) + 1 = geo (cs z).length (i + 1)) ⟨none, none, none, rfl, rfl, ?_⟩ ?_ ?_
    · show num z ((cs x).drop (x.length - 0)) + 1 = geo _ 1
      rw [Nat.sub_zero, List.drop_eq_nil_of_le (by rw [cs_len]; exact Nat.le_refl _)]
      rfl
    · rintro i σ H' hi ⟨a, b, c, rfl, rfl, inv⟩
      have hi' : i < x.length := by
        have : i < (x.length : Int).toNat := hi
        omega
      obtain ⟨j, hj⟩ : ∃ j : Nat, x.length = j + 1 + i := ⟨x.length - 1 - i, by omega⟩
      have jl : j < (cs x).length := by
        rw [cs_len]
        omega
      obtain ⟨c1, hc⟩ : ∃ c, (cs x)[j]? = some c := ⟨_, List.getElem?_eq_getElem jl⟩
      have e0 : ((x.length : Int) - 1 - (0 + (i : Int))) = ((j : Nat) : Int) := by omega
      have mx := ox c1 (List.mem_of_getElem? hc)
      have dj : (cs x).drop (x.length - (i + 1)) = c1 :: (cs x).drop (x.length - i) := by
        rw [show x.length - (i + 1) = j by omega, show x.length - i = j + 1 by omega, List.drop_eq_getElem_cons jl]
        rw [List.getElem?_eq_getElem jl] at hc
        rw [Option.some.inj hc]
      have ld : ((cs x).drop (x.length - i)).length = i := by
        rw [List.length_drop, cs_len]
        omega
      refine ⟨_, rfl, x, rfl, small_text (by omega), _, _, rfl, rfl, _, rfl, _, _, rfl, rfl, ?_⟩
      refine ⟨_, rfl, rfl, _, rfl, _, rfl, x, _, c1, rfl, rfl, small_text (by omega), (by rw [e0]; exact atI_nat hc), z, ⟨#[c1]⟩, rfl, rfl, fun k hk => ?_, fun e => absurd mx (index_none e)⟩
      have pk : pl z c1 = k := pl_at al.nodup (index_sign hk)
      refine ⟨_, _, rfl, rfl, _, rfl, _, rfl, z, rfl, sz, _, _, rfl, rfl, _, rfl, ite2 (fun g => ?_) (fun g => ?_)⟩
      · have lt : k + 1 < (cs z).length := by
          have := of_decide_eq_true g
          omega
        obtain ⟨c2, h2⟩ : ∃ c, (cs z)[k + 1]? = some c := ⟨_, List.getElem?_eq_getElem lt⟩
        have m2 : c2 ∈ cs z := List.mem_of_getElem? h2
        have e1 : ((k : Int) + 1) = ((k + 1 : Nat) : Int) := by omega
        refine ⟨_, rfl, _, rfl, _, rfl, x, rfl, small_text (by omega), ?_⟩
        refine ⟨_, rfl, _, rfl, z, _, c2, rfl, rfl, sz, (by rw [e1]; exact atI_nat h2), _, _, rfl, rfl, small_text ?_, ?_⟩
        · have := cut_len x none (some ((x.length : Int) - 1 - (0 + (i : Int))))

          show _ + 1 ≤ 1000000
          omega
        refine ⟨_, rfl, z, _, c0, rfl, rfl, sz, (by exact atI_nat (j := 0) h0), _, rfl, _, _, rfl, rfl, by show 1 ≤ 16; decide, by omega, by omega, _, _, rfl, rfl, small_text ?_, ?_⟩
        · have := cut_len x none (some ((x.length : Int) - 1 - (0 + (i : Int))))
          rw [length_mul, length_app]
          show _ + 1 + 1 * _ ≤ 1000000
          omega
        rw [e0]
        have ei : (0 : Int) + (i : Int) = ((i : Nat) : Int) := by omega
        rw [ei]
        have er : cs (Txt.mul ⟨#[c0]⟩ ((i : Nat) : Int)) = List.replicate i c0 := by
          rw [cs_mul, Int.toNat_natCast, cs_one]
          clear hi hi' hj e0 dj ld inv ei
          induction i with
          | zero => rfl
          | succ i ih => rw [List.replicate_succ, List.flatten_cons, ih]; rfl
        have ey : cs (cutS x none (some ((j : Nat) : Int)) ++ ⟨#[c2]⟩ ++ Txt.mul ⟨#[c0]⟩ ((i : Nat) : Int)) = (cs x).take j ++ c2 :: List.replicate i c0 := by
          rw [cs_app, cs_app, cs_upto, cs_one, er, List.append_assoc]
          rfl
        refine q _ ((ox.cut.app (Over.one m2)).app (Over.mul (Over.one m0))) ?_ ?_
        · rw [← cs_len, ey, List.length_append, List.length_take, List.length_cons, List.length_replicate, cs_len]
          omega
        · have ex : cs x = (cs x).take j ++ (c1 :: (cs x).drop (x.length - i)) := by
            rw [← dj, show x.length - (i + 1) = j by omega, List.take_append_drop]
          rw [ey, num_app, num_cons, pl_at al.nodup h2, num_first p0, List.length_replicate, List.length_cons, List.length_replicate]
          rw [ex, num_app, num_cons, pk, ld, List.length_cons, ld]
          have up : geo (cs z).length (i + 1) = geo (cs z).length i + (cs z).length ^ i := rfl
          rw [List.take_append_of_le_length (by rw [List.length_take]; omega), List.take_take, Nat.min_self]
          rw [Nat.add_mul (k + 1) 1]
          omega
      · refine ⟨_, _, _, rfl, rfl, ?_⟩
        have ge : k + 1 = (cs z).length := by
          have h1 : ¬ ((k : Int) + 1 < (z.length : Int)) := fun h => g (decide_eq_true h)
          have h2 := pl_lt mx
          omega
        have up : geo (cs z).length (i + 1 + 1) = geo (cs z).length (i + 1) + (cs z).length ^ (i + 1) := rfl
        rw [dj, num_cons, ld, pk, ge, up, Nat.pow_succ, Nat.mul_comm (cs z).length]
        omega
    · rintro σ H' ⟨a, b, c, rfl, rfl, inv⟩
      have nx : (x.length : Int).toNat = x.length := Int.toNat_natCast _
      rw [nx, Nat.sub_self, List.drop_zero] at inv
      refine ⟨_, rfl, z, _, c0, rfl, rfl, sz, (by exact atI_nat (j := 0) h0), _, rfl, x, rfl, small_text (by omega), _, _, rfl, rfl, _, _, rfl, rfl, by show 1 ≤ 16; decide, by omega, by omega, ?_⟩
      have ei : (x.length : Int) + 1 = ((x.length + 1 : Nat) : Int) := by omega
      rw [ei]
      have er : ∀ n : Nat, cs (Txt.mul ⟨#[c0]⟩ ((n : Nat) : Int)) = List.replicate n c0 := by
        intro n
        rw [cs_mul, Int.toNat_natCast, cs_one]
        induction n with
        | zero => rfl
        | succ n ih => rw [List.replicate_succ, List.flatten_cons, ih]; rfl
      refine q _ (Over.mul (Over.one m0)) ?_ ?_
      · rw [← cs_len, er, List.length_replicate]
        omega
      · rw [er, num_first p0]
        omega

def sp_sameR (rel : Hp → V → V → Prop) : Sp := fun vs H Q _ => ∃ x y : V, vs = [x, y] ∧ rel H x y ∧ Q (.bl true) H
theorem same_bit {x : V} {Q : VK} {H : Hp} (q : Q (.bl true) H) : Q (.bl (decide (x = x))) H := by
  rw [decide_eq_true rfl]
  exact q
theorem same_step {rel : Hp → V → V → Prop} {j : Nat} (T : Txt K mg base) (G : FnOk P w K mg base CX0 j T.f_same T.fd_same ["actual", "expected"] (sp_sameR rel)) :
    FnOk P w K mg base CX0 (j + 1) T.f_same T.fd_same ["actual", "expected"] (sp_sameR (SameR rel)) := by
  refine T.F_same.ok sc_same (fun vs H Q E h => ?_) (fun cdv A outer s H vs Q E hr h => ?_)
  · obtain ⟨x, y, rfl, _⟩ := h
    rfl
  · obtain ⟨x, y, rfl, h, q⟩ := h
    refine ⟨_, (pss_cons (ps_if (pt_cmpR op_isN (pv 1) pe_non (nomark _)) (pss_one (ps_ret (pe_cmpR op_isN (pv 0) pe_non (nomark _)))) pss_nil)
      (pss_cons (ps_if (pt_val (pe_callB call_isi (by rfl) T.z_isinstance (by decide +kernel) (pa_cons (pv 1) (pa_cons (pe_bltn (v := .ty "bool") (by rfl) T.z_bool (by decide +kernel) rfl) pa_nil)))) (pss_one (ps_ret (pe_and (pe_callB call_isi (by rfl) T.z_isinstance (by decide +kernel) (pa_cons (pv 0) (pa_cons (pe_bltn (v := .ty "bool") (by rfl) T.z_bool (by decide +kernel) rfl) pa_nil))) (pe_one (pe_cmpR op_eq (pv 0) (pv 1) (nomark _)))))) pss_nil)
      (pss_cons (ps_if (pt_val (pe_callB call_isi (by rfl) T.z_isinstance (by decide +kernel) (pa_cons (pv 1) (pa_cons (pe_bltn (v := .ty "int") (by rfl) T.z_int (by decide +kernel) rfl) pa_nil)))) (pss_one (ps_ret (pe_and (pe_callB call_isi (by rfl) T.z_isinstance (by decide +kernel) (pa_cons (pv 0) (pa_cons (pe_bltn (v := .ty "int") (by rfl) T.z_int (by decide +kernel) rfl) pa_nil))) (pe_and (pe_not (pe_callB call_isi (by rfl) T.z_isinstance (by decide +kernel) (pa_cons (pv 0) (pa_cons (pe_bltn (v := .ty "bool") (by rfl) T.z_bool (by decide +kernel) rfl) pa_nil)))) (pe_one (pe_cmpR op_eq (pv 0) (pv 1) (nomark _))))))) pss_nil)
      (pss_cons (ps_if (pt_val (pe_callB call_isi (by rfl) T.z_isinstance (by decide +kernel) (pa_cons (pv 1) (pa_cons (pe_bltn (v := .ty "str") (by rfl) T.z_str (by decide +kernel) rfl) pa_nil)))) (pss_one (ps_ret (pe_and (pe_callB call_isi (by rfl) T.z_isinstance (by decide +kernel) (pa_cons (pv 0) (pa_cons (pe_bltn (v := .ty "str") (by rfl) T.z_str (by decide +kernel) rfl) pa_nil))) (pe_one (pe_cmpR op_eq (pv 0) (pv 1) (nomark _)))))) pss_nil)
      (pss_cons (ps_if (pt_val (pe_callB call_isi (by rfl) T.z_isinstance (by decide +kernel) (pa_cons (pv 1) (pa_cons (pe_bltn (v := .ty "tuple") (by rfl) T.z_tuple (by decide +kernel) rfl) pa_nil)))) (pss_one (ps_if (pt_not (pt_val (pe_callB call_isi (by rfl) T.z_isinstance (by decide +kernel) (pa_cons (pv 0) (pa_cons (pe_bltn (v := .ty "tuple") (by rfl) T.z_tuple (by decide +kernel) rfl) pa_nil))))) (pss_one (ps_ret pe_bl)) pss_nil)) (pss_one (ps_if (PW.pt (pw_or (pt_not (pt_val (pe_callB call_isi (by rfl) T.z_isinstance (by decide +kernel) (pa_cons (pv 0) (pa_cons (pe_bltn (v := .ty "list") (by rfl) T.z_list (by decide +kernel) rfl) pa_nil))))) (pw_or1 (pt_not (pt_val (pe_callB call_isi (by rfl) T.z_isinstance (by decide +kernel) (pa_cons (pv 1) (pa_cons (pe_bltn (v := .ty "list") (by rfl) T.z_list (by decide +kernel) rfl) pa_nil)))))))) (pss_one (ps_ret pe_bl)) pss_nil)))
      (pss_cons (ps_if (pt_cmpR op_ne (pe_callB call_len (by rfl) T.z_len PySem.boot_len (pa_cons (pv 0) pa_nil)) (pe_callB call_len (by rfl) T.z_len PySem.boot_len (pa_cons (pv 1) pa_nil)) (nomark _)) (pss_one (ps_ret pe_bl)) pss_nil)
      (pss_cons (ps_for PassesOwn.never rfl (pi_range1 (by rfl) T.z_range (pa_cons (pe_callB call_len (by rfl) T.z_len PySem.boot_len (pa_cons (pv 1) pa_nil)) pa_nil)) (pg_name (i := 2) sc_same.nd rfl (.inl rfl)) (pss_one (ps_if (pt_not (pt_val (pe_call G (hr.mono (by first | decide | exact Nat.le_refl _)) (by rfl) T.g_same T.F_same.kp T.b_same .nil pass0 (pa_cons (pe_ix ix_seq (pv 0) (pv 2) (fun _ _ => rfl)) (pa_cons (pe_ix ix_seq (pv 1) (pv 2) (fun _ _ => rfl)) pa_nil))))) (pss_one (ps_ret pe_bl)) pss_nil)))
      (pss_one (ps_ret pe_bl))))))))), ?_⟩
    rcases h with ⟨rfl, hy⟩ | ⟨p, r, xs, ys, rfl, rfl, ho, hl, hb, hi⟩
    · cases x with
      | non => exact ⟨_, rfl, rfl, _, rfl, iteC rfl ⟨_, rfl, rfl, q⟩⟩
      | bl b => exact ⟨_, rfl, rfl, _, rfl, iteN rfl ⟨_, rfl, _, _, _, _, true, rfl, .ty _, .base (.bl b), kit_ty (by decide +kernel), _, rfl, iteT ⟨_, rfl, _, _, _, _, true, rfl, .ty _, .base (.bl b), kit_ty (by decide +kernel), _, rfl, iteT ⟨_, rfl, _, rfl, rfl, same_bit q⟩⟩⟩⟩
      | int b =>
        refine ⟨_, rfl, rfl, _, rfl, iteN rfl ⟨_, rfl, _, _, _, _, false, rfl, .ty _, .base (.int b), kit_ty (by decide +kernel), _, rfl, iteF ?_⟩⟩
        refine ⟨_, rfl, _, _, _, _, true, rfl, .ty _, .base (.int b), kit_ty (by decide +kernel), _, rfl, iteT ?_⟩
        exact ⟨_, rfl, _, _, _, _, true, rfl, .ty _, .base (.int b), kit_ty (by decide +kernel), _, rfl, iteT ⟨_, rfl, _, _, _, _, false, rfl, .ty _, .base (.int b), kit_ty (by decide +kernel), _, rfl, _, rfl, iteT ⟨_, rfl, _, rfl, rfl, same_bit q⟩⟩⟩
      | str b =>
        refine ⟨_, rfl, rfl, _, rfl, iteN rfl ⟨_, rfl, _, _, _, _, false, rfl, .ty _, .base (.str b), kit_ty (by decide +kernel), _, rfl, iteF ?_⟩⟩
        refine ⟨_, rfl, _, _, _, _, false, rfl, .ty _, .base (.str b), kit_ty (by decide +kernel), _, rfl, iteF ?_⟩
        refine ⟨_, rfl, _, _, _, _, true, rfl, .ty _, .base (.str b), kit_ty (by decide +kernel), _, rfl, iteT ?_⟩
        exact ⟨_, rfl, _, _, _, _, true, rfl, .ty _, .base (.str b), kit_ty (by decide +kernel), _, rfl, iteT ⟨_, rfl, _, rfl, rfl, same_bit q⟩⟩
      | byt b => cases hy
      | flt b => cases hy
      | ref b => cases hy
      | ty b => cases hy
    · refine ⟨_, rfl, rfl, _, rfl, iteN rfl ?_⟩
      rcases ho with ⟨o1, o2⟩ | ⟨o1, o2⟩
      · refine ⟨_, rfl, _, _, _, _, false, rfl, .ty _, .base (.tup o2), kit_ty (by decide +kernel), _, rfl, iteF ?_⟩
        refine ⟨_, rfl, _, _, _, _, false, rfl, .ty _, .base (.tup o2), kit_ty (by decide +kernel), _, rfl, iteF ?_⟩
        refine ⟨_, rfl, _, _, _, _, false, rfl, .ty _, .base (.tup o2), kit_ty (by decide +kernel), _, rfl, iteF ?_⟩
        refine ⟨_, rfl, _, _, _, _, true, rfl, .ty _, .base (.tup o2), kit_ty (by decide +kernel), _, rfl, iteT ?_⟩
        refine ⟨_, rfl, _, _, _, _, true, rfl, .ty _, .base (.tup o1), kit_ty (by decide +kernel), _, rfl, iteF ?_⟩
        refine ⟨_, rfl, _, _, rfl, .inr ⟨_, .inl (.inl o1), rfl⟩, _, rfl, _, _, rfl, .inr ⟨_, .inl (.inl o2), rfl⟩, rfl, _, rfl, iteN (by rw [hl]; simp) ?_⟩
        refine ⟨_, rfl, _, _, rfl, .inr ⟨_, .inl (.inl o2), rfl⟩, (ys.length : Int), rfl, by omega, by omega, ?_⟩
        refine for_range (lo := 0) (n := (ys.length : Int).toNat) (fun i σ H' => ∃ z : Option V, σ = [some (.ref p), some (.ref r), z] ∧ H' = H) ⟨none, rfl, rfl⟩ ?_ ?_
        · rintro i σ H' hn ⟨z, rfl, rfl⟩
          have hn' : i < ys.length := hn
          have hx : xs[i]? = some xs[i] := List.getElem?_eq_getElem (by omega)
          have hy : ys[i]? = some ys[i] := List.getElem?_eq_getElem hn'
          refine ⟨_, rfl, _, rfl, .inr (.inl ⟨_, _, _, _, rfl, rfl, .inl (.inl o1), (by rw [Int.zero_add]; exact atI_nat hx), _, rfl, _, rfl, .inr (.inl ⟨_, _, _, _, rfl, rfl, .inl (.inl o2), (by rw [Int.zero_add]; exact atI_nat hy), _, _, rfl, hi i _ _ hx hy, _, rfl, iteN rfl ⟨_, rfl, rfl⟩⟩)⟩)⟩
        · rintro σ H' ⟨z, rfl, rfl⟩
          exact q
      · refine ⟨_, rfl, _, _, _, _, false, rfl, .ty _, .base (.lst o2), kit_ty (by decide +kernel), _, rfl, iteF ?_⟩
        refine ⟨_, rfl, _, _, _, _, false, rfl, .ty _, .base (.lst o2), kit_ty (by decide +kernel), _, rfl, iteF ?_⟩
        refine ⟨_, rfl, _, _, _, _, false, rfl, .ty _, .base (.lst o2), kit_ty (by decide +kernel), _, rfl, iteF ?_⟩
        refine ⟨_, rfl, _, _, _, _, false, rfl, .ty _, .base (.lst o2), kit_ty (by decide +kernel), _, rfl, iteF ?_⟩
        refine ⟨_, rfl, _, _, _, _, true, rfl, .ty _, .base (.lst o1), kit_ty (by decide +kernel), _, rfl, iteN rfl ⟨_, rfl, _, _, _, _, true, rfl, .ty _, .base (.lst o2), kit_ty (by decide +kernel), _, rfl, iteN rfl ?_⟩⟩
        refine ⟨_, rfl, _, _, rfl, .inl ⟨_, .inl (.inl o1), rfl⟩, _, rfl, _, _, rfl, .inl ⟨_, .inl (.inl o2), rfl⟩, rfl, _, rfl, iteN (by rw [hl]; simp) ?_⟩
        refine ⟨_, rfl, _, _, rfl, .inl ⟨_, .inl (.inl o2), rfl⟩, (ys.length : Int), rfl, by omega, by omega, ?_⟩
        refine for_range (lo := 0) (n := (ys.length : Int).toNat) (fun i σ H' => ∃ z : Option V, σ = [some (.ref p), some (.ref r), z] ∧ H' = H) ⟨none, rfl, rfl⟩ ?_ ?_
        · rintro i σ H' hn ⟨z, rfl, rfl⟩
          have hn' : i < ys.length := hn
          have hx : xs[i]? = some xs[i] := List.getElem?_eq_getElem (by omega)
          have hy : ys[i]? = some ys[i] := List.getElem?_eq_getElem hn'
          refine ⟨_, rfl, _, rfl, .inl ⟨_, _, _, _, rfl, rfl, .inl (.inl o1), (by rw [Int.zero_add]; exact atI_nat hx), _, rfl, _, rfl, .inl ⟨_, _, _, _, rfl, rfl, .inl (.inl o2), (by rw [Int.zero_add]; exact atI_nat hy), _, _, rfl, hi i _ _ hx hy, _, rfl, iteN rfl ⟨_, rfl, rfl⟩⟩⟩⟩
        · rintro σ H' ⟨z, rfl, rfl⟩
          exact q
/-- no promise at all -/
theorem fnOk_none {f : Addr} {fd : FuncData} {ps : List Str} {k : Nat} : FnOk P w K mg base CX0 k f fd ps (sp_sameR fun _ _ _ => False) :=
  ⟨fun vs H Q E h => by obtain ⟨_, _, _, h, _⟩ := h; exact h.elim, fun A outer s H args us vs Q E _ _ _ _ h => by obtain ⟨_, _, _, h, _⟩ := h; exact h.elim⟩
theorem ok_sameN (T : Txt K mg base) : ∀ n : Nat, FnOk P w K mg base CX0 (n + 1) T.f_same T.fd_same ["actual", "expected"] (sp_sameR (SameD n))
  | 0 => same_step T fnOk_none
  | n + 1 => same_step T (ok_sameN T n)
theorem ok_same (T : Txt K mg base) : FnOk P w K mg base CX0 10 T.f_same T.fd_same ["actual", "expected"] (sp_sameR (SameD 9)) := ok_sameN T 9
def sp_sameB (rel : Hp → V → V → Prop) (dp : Hp → V → Prop) : Sp := fun vs H Q _ => ∃ x y : V, vs = [x, y] ∧ dp H x ∧ dp H y ∧ ∀ b : Bool, (b = true ↔ rel H x y) → Q (.bl b) H
theorem sameB_step {rel : Hp → V → V → Prop} {dp : Hp → V → Prop} {j : Nat} (T : Txt K mg base) (G : FnOk P w K mg base CX0 j T.f_same T.fd_same ["actual", "expected"] (sp_sameB rel dp)) :
    FnOk P w K mg base CX0 (j + 1) T.f_same T.fd_same ["actual", "expected"] (sp_sameB (SameR rel) (DeepE dp)) := by
  refine T.F_same.ok sc_same (fun vs H Q E h => ?_) (fun cdv A outer s H vs Q E hr h => ?_)
  · obtain ⟨x, y, rfl, _⟩ := h
    rfl
  · obtain ⟨x, y, rfl, dx, dy, q⟩ := h
    refine ⟨_, (pss_cons (ps_if (pt_cmpR op_isN (pv 1) pe_non (nomark _)) (pss_one (ps_ret (pe_cmpR op_isN (pv 0) pe_non (nomark _)))) pss_nil)
      (pss_cons (ps_if (pt_val (pe_callB call_isi (by rfl) T.z_isinstance (by decide +kernel) (pa_cons (pv 1) (pa_cons (pe_bltn (v := .ty "bool") (by rfl) T.z_bool (by decide +kernel) rfl) pa_nil)))) (pss_one (ps_ret (pe_and (pe_callB call_isi (by rfl) T.z_isinstance (by decide +kernel) (pa_cons (pv 0) (pa_cons (pe_bltn (v := .ty "bool") (by rfl) T.z_bool (by decide +kernel) rfl) pa_nil))) (pe_one (pe_cmpR op_eq (pv 0) (pv 1) (nomark _)))))) pss_nil)
      (pss_cons (ps_if (pt_val (pe_callB call_isi (by rfl) T.z_isinstance (by decide +kernel) (pa_cons (pv 1) (pa_cons (pe_bltn (v := .ty "int") (by rfl) T.z_int (by decide +kernel) rfl) pa_nil)))) (pss_one (ps_ret (pe_and (pe_callB call_isi (by rfl) T.z_isinstance (by decide +kernel) (pa_cons (pv 0) (pa_cons (pe_bltn (v := .ty "int") (by rfl) T.z_int (by decide +kernel) rfl) pa_nil))) (pe_and (pe_not (pe_callB call_isi (by rfl) T.z_isinstance (by decide +kernel) (pa_cons (pv 0) (pa_cons (pe_bltn (v := .ty "bool") (by rfl) T.z_bool (by decide +kernel) rfl) pa_nil)))) (pe_one (pe_cmpR op_eq (pv 0) (pv 1) (nomark _))))))) pss_nil)
      (pss_cons (ps_if (pt_val (pe_callB call_isi (by rfl) T.z_isinstance (by decide +kernel) (pa_cons (pv 1) (pa_cons (pe_bltn (v := .ty "str") (by rfl) T.z_str (by decide +kernel) rfl) pa_nil)))) (pss_one (ps_ret (pe_and (pe_callB call_isi (by rfl) T.z_isinstance (by decide +kernel) (pa_cons (pv 0) (pa_cons (pe_bltn (v := .ty "str") (by rfl) T.z_str (by decide +kernel) rfl) pa_nil))) (pe_one (pe_cmpR op_eq (pv 0) (pv 1) (nomark _)))))) pss_nil)
      (pss_cons (ps_if (pt_val (pe_callB call_isi (by rfl) T.z_isinstance (by decide +kernel) (pa_cons (pv 1) (pa_cons (pe_bltn (v := .ty "tuple") (by rfl) T.z_tuple (by decide +kernel) rfl) pa_nil)))) (pss_one (ps_if (pt_not (pt_val (pe_callB call_isi (by rfl) T.z_isinstance (by decide +kernel) (pa_cons (pv 0) (pa_cons (pe_bltn (v := .ty "tuple") (by rfl) T.z_tuple (by decide +kernel) rfl) pa_nil))))) (pss_one (ps_ret pe_bl)) pss_nil)) (pss_one (ps_if (PW.pt (pw_or (pt_not (pt_val (pe_callB call_isi (by rfl) T.z_isinstance (by decide +kernel) (pa_cons (pv 0) (pa_cons (pe_bltn (v := .ty "list") (by rfl) T.z_list (by decide +kernel) rfl) pa_nil))))) (pw_or1 (pt_not (pt_val (pe_callB call_isi (by rfl) T.z_isinstance (by decide +kernel) (pa_cons (pv 1) (pa_cons (pe_bltn (v := .ty "list") (by rfl) T.z_list (by decide +kernel) rfl) pa_nil)))))))) (pss_one (ps_ret pe_bl)) pss_nil)))
      (pss_cons (ps_if (pt_cmpR op_ne (pe_callB call_len (by rfl) T.z_len PySem.boot_len (pa_cons (pv 0) pa_nil)) (pe_callB call_len (by rfl) T.z_len PySem.boot_len (pa_cons (pv 1) pa_nil)) (nomark _)) (pss_one (ps_ret pe_bl)) pss_nil)
      (pss_cons (ps_for PassesOwn.never rfl (pi_range1 (by rfl) T.z_range (pa_cons (pe_callB call_len (by rfl) T.z_len PySem.boot_len (pa_cons (pv 1) pa_nil)) pa_nil)) (pg_name (i := 2) sc_same.nd rfl (.inl rfl)) (pss_one (ps_if (pt_not (pt_val (pe_call G (hr.mono (by first | decide | exact Nat.le_refl _)) (by rfl) T.g_same T.F_same.kp T.b_same .nil pass0 (pa_cons (pe_ix ix_seq (pv 0) (pv 2) (fun _ _ => rfl)) (pa_cons (pe_ix ix_seq (pv 1) (pv 2) (fun _ _ => rfl)) pa_nil))))) (pss_one (ps_ret pe_bl)) pss_nil)))
      (pss_one (ps_ret pe_bl))))))))), ?_⟩
    have sx := dx.shal
    have atom : plainV y = true → ∀ b : Bool, (b = true ↔ x = y) → Q (.bl b) H := fun pl b e => q b (e.trans (same_atom pl).symm)
    cases y with
    | non => exact ⟨_, rfl, rfl, _, rfl, iteC rfl ⟨_, rfl, rfl, atom rfl _ decide_eq_true_iff⟩⟩
    | bl b =>
      refine ⟨_, rfl, rfl, _, rfl, iteN rfl ⟨_, rfl, _, _, _, _, true, rfl, .ty _, .base (.bl b), kit_ty (by decide +kernel), _, rfl, iteT ?_⟩⟩
      obtain ⟨t, ht, kt⟩ := isi_bool (K := K) sx
      refine ⟨_, rfl, _, _, _, _, _, rfl, .ty _, ht, kt, _, rfl, ?_⟩
      cases e : isBl x with
      | false => exact iteF (atom rfl false ⟨fun h => (by cases h), fun h => by rw [h] at e; cases e⟩)
      | true =>
        have : scal x (.bl b) = true := by
          cases x <;> first | rfl | cases e
        exact iteT ⟨_, rfl, _, rfl, this, atom rfl _ decide_eq_true_iff⟩
    | int b =>
      refine ⟨_, rfl, rfl, _, rfl, iteN rfl ⟨_, rfl, _, _, _, _, false, rfl, .ty _, .base (.int b), kit_ty (by decide +kernel), _, rfl, iteF ?_⟩⟩
      refine ⟨_, rfl, _, _, _, _, true, rfl, .ty _, .base (.int b), kit_ty (by decide +kernel), _, rfl, iteT ?_⟩
      obtain ⟨t, ht, kt⟩ := isi_int (K := K) sx
      obtain ⟨t2, ht2, kt2⟩ := isi_bool (K := K) sx
      refine ⟨_, rfl, _, _, _, _, _, rfl, .ty _, ht, kt, _, rfl, ?_⟩
      cases e : (isInt x || isBl x) with
      | false => exact iteF (atom rfl false ⟨fun h => (by cases h), fun h => by rw [h] at e; cases e⟩)
      | true =>
        refine iteT ⟨_, rfl, _, _, _, _, _, rfl, .ty _, ht2, kt2, _, rfl, _, rfl, ?_⟩
        cases e2 : isBl x with
        | true => exact iteF (atom rfl false ⟨fun h => (by cases h), fun h => by rw [h] at e2; cases e2⟩)
        | false =>
          have : scal x (.int b) = true := by
            cases x <;> first | rfl | (cases e2; done) | (cases e; done)
          exact iteT ⟨_, rfl, _, rfl, this, atom rfl _ decide_eq_true_iff⟩
    | str b =>
      refine ⟨_, rfl, rfl, _, rfl, iteN rfl ⟨_, rfl, _, _, _, _, false, rfl, .ty _, .base (.str b), kit_ty (by decide +kernel), _, rfl, iteF ?_⟩⟩
      refine ⟨_, rfl, _, _, _, _, false, rfl, .ty _, .base (.str b), kit_ty (by decide +kernel), _, rfl, iteF ?_⟩
      refine ⟨_, rfl, _, _, _, _, true, rfl, .ty _, .base (.str b), kit_ty (by decide +kernel), _, rfl, iteT ?_⟩
      obtain ⟨t, ht, kt⟩ := isi_str (K := K) sx
      refine ⟨_, rfl, _, _, _, _, _, rfl, .ty _, ht, kt, _, rfl, ?_⟩
      cases e : isStr x with
      | false => exact iteF (atom rfl false ⟨fun h => (by cases h), fun h => by rw [h] at e; cases e⟩)
      | true =>
        have : scal x (.str b) = true := by
          cases x <;> first | rfl | cases e
        exact iteT ⟨_, rfl, _, rfl, this, atom rfl _ decide_eq_true_iff⟩
    | byt b => rcases dy with ⟨pl, _⟩ | ⟨r, ys, e, _⟩ <;> first | cases pl | cases e
    | flt b => rcases dy with ⟨pl, _⟩ | ⟨r, ys, e, _⟩ <;> first | cases pl | cases e
    | ty b => rcases dy with ⟨pl, _⟩ | ⟨r, ys, e, _⟩ <;> first | cases pl | cases e
    | ref r =>
      rcases dy with ⟨pl, _⟩ | ⟨r', ys, e, o, ly, hy⟩
      · cases pl
      cases e
      refine ⟨_, rfl, rfl, _, rfl, iteN rfl ?_⟩
      rcases o with o2 | o2
      · refine ⟨_, rfl, _, _, _, _, false, rfl, .ty _, .base (.lst o2), kit_ty (by decide +kernel), _, rfl, iteF ?_⟩
        refine ⟨_, rfl, _, _, _, _, false, rfl, .ty _, .base (.lst o2), kit_ty (by decide +kernel), _, rfl, iteF ?_⟩
        refine ⟨_, rfl, _, _, _, _, false, rfl, .ty _, .base (.lst o2), kit_ty (by decide +kernel), _, rfl, iteF ?_⟩
        refine ⟨_, rfl, _, _, _, _, false, rfl, .ty _, .base (.lst o2), kit_ty (by decide +kernel), _, rfl, iteF ?_⟩
        obtain ⟨t, b, ht, kt, hb⟩ := isi_lst (K := K) sx
        refine ⟨_, rfl, _, _, _, _, _, rfl, .ty _, ht, kt, _, rfl, ?_⟩
        cases b with
        | false =>
          refine iteC rfl (iteC rfl (q false ⟨fun h => (by cases h), fun h => ?_⟩))
          rcases h with ⟨e, pl⟩ | ⟨p', q', xs', ys', e1, e2, h, _⟩
          · cases pl
          · cases e2
            have z : false = true := (h.elim (fun z => (by rw [z.2] at o2; cases o2)) fun z => hb.mpr ⟨p', xs', e1, z.1⟩)
            cases z
        | true =>
        obtain ⟨p, xs, rfl, o1⟩ := hb.mp rfl
        refine iteN rfl ⟨_, rfl, _, _, _, _, true, rfl, .ty _, .base (.lst o2), kit_ty (by decide +kernel), _, rfl, iteN rfl ?_⟩
        have hx : xs.length ≤ 1000000 ∧ ∀ x ∈ xs, dp H x := by
          rcases dx with ⟨pl, _⟩ | ⟨p', xs', e, o, l, h⟩
          · cases pl
          · cases e
            have := same_row o (.inl o1)
            subst this
            exact ⟨l, h⟩
        refine ⟨_, rfl, _, _, rfl, .inl ⟨_, .inl (.inl o1), rfl⟩, _, rfl, _, _, rfl, .inl ⟨_, .inl (.inl o2), rfl⟩, rfl, _, rfl, ?_⟩
        have rows : ∀ h : SameR rel H (.ref p) (.ref r), xs.length = ys.length ∧ ∀ (i : Nat) (x' y' : V), xs[i]? = some x' → ys[i]? = some y' → rel H x' y' := fun h => by
          rcases h with ⟨_, pl⟩ | ⟨p', q', xs', ys', e1, e2, h, l, _, rr⟩
          · cases pl
          · cases e1
            cases e2
            have g1 := same_row (h.elim (fun z => .inr z.1) fun z => .inl z.1) (.inl o1)
            have g2 := same_row (h.elim (fun z => .inr z.2) fun z => .inl z.2) (.inl o2)
            subst g1
            subst g2
            exact ⟨l, rr⟩
        by_cases hl : xs.length = ys.length
        · refine iteN (by rw [hl]; simp) ?_
          refine ⟨_, rfl, _, _, rfl, .inl ⟨_, .inl (.inl o2), rfl⟩, (ys.length : Int), rfl, by omega, by omega, ?_⟩
          refine for_range (lo := 0) (n := (ys.length : Int).toNat) (fun i σ H' => ∃ z : Option V, σ = [some (.ref p), some (.ref r), z] ∧ H' = H ∧ ∀ k : Nat, k < i → ∀ x' y' : V, xs[k]? = some x' → ys[k]? = some y' → rel H x' y') ⟨none, rfl, rfl, fun k h => by omega⟩ ?_ ?_
          · rintro i σ H' hn ⟨z, rfl, rfl, done⟩
            have hn' : i < ys.length := hn
            have hx' : xs[i]? = some xs[i] := List.getElem?_eq_getElem (by omega)
            have hy' : ys[i]? = some ys[i] := List.getElem?_eq_getElem hn'
            refine ⟨_, rfl, _, rfl, .inl ⟨_, _, _, _, rfl, rfl, .inl (.inl o1), (by rw [Int.zero_add]; exact atI_nat hx'), _, rfl, _, rfl, .inl ⟨_, _, _, _, rfl, rfl, .inl (.inl o2), (by rw [Int.zero_add]; exact atI_nat hy'), _, _, rfl, hx.2 _ (List.getElem_mem _), hy _ (List.getElem_mem _), fun b hb => ⟨_, rfl, ?_⟩⟩⟩⟩
            cases b with
            | false =>
              refine iteC rfl (q false ⟨fun h => (by cases h), fun h => ?_⟩)
              cases hb.mpr ((rows h).2 i _ _ hx' hy')
            | true =>
              refine iteN rfl ⟨_, rfl, rfl, fun k hk x' y' ex ey => ?_⟩
              by_cases g : k < i
              · exact done k g x' y' ex ey
              · have g : k = i := by omega
                subst g
                rw [hx'] at ex
                rw [hy'] at ey
                cases ex
                cases ey
                exact hb.mp rfl
          · rintro σ H' ⟨z, rfl, rfl, done⟩
            refine q true ⟨fun _ => .inr ⟨p, r, xs, ys, rfl, rfl, .inr ⟨o1, o2⟩, hl, ly, fun i x' y' ex ey => done i ?_ x' y' ex ey⟩, fun _ => rfl⟩
            have := (List.getElem?_eq_some_iff.mp ey).1
            show i < (ys.length : Int).toNat
            omega
        · refine iteC (by rw [decide_eq_false (fun e => hl (by have := V.int.inj e; omega))]; rfl) (q false ⟨fun h => (by cases h), fun h => (hl (rows h).1).elim⟩)
      · refine ⟨_, rfl, _, _, _, _, false, rfl, .ty _, .base (.tup o2), kit_ty (by decide +kernel), _, rfl, iteF ?_⟩
        refine ⟨_, rfl, _, _, _, _, false, rfl, .ty _, .base (.tup o2), kit_ty (by decide +kernel), _, rfl, iteF ?_⟩
        refine ⟨_, rfl, _, _, _, _, false, rfl, .ty _, .base (.tup o2), kit_ty (by decide +kernel), _, rfl, iteF ?_⟩
        refine ⟨_, rfl, _, _, _, _, true, rfl, .ty _, .base (.tup o2), kit_ty (by decide +kernel), _, rfl, iteT ?_⟩
        obtain ⟨t, b, ht, kt, hb⟩ := isi_tup (K := K) sx
        refine ⟨_, rfl, _, _, _, _, _, rfl, .ty _, ht, kt, _, rfl, ?_⟩
        cases b with
        | false =>
          refine iteC rfl (q false ⟨fun h => (by cases h), fun h => ?_⟩)
          rcases h with ⟨e, pl⟩ | ⟨p', q', xs', ys', e1, e2, h, _⟩
          · cases pl
          · cases e2
            have z : false = true := (h.elim (fun z => hb.mpr ⟨p', xs', e1, z.1⟩) fun z => (by rw [z.2] at o2; cases o2))
            cases z
        | true =>
        obtain ⟨p, xs, rfl, o1⟩ := hb.mp rfl
        refine iteF ?_
        have hx : xs.length ≤ 1000000 ∧ ∀ x ∈ xs, dp H x := by
          rcases dx with ⟨pl, _⟩ | ⟨p', xs', e, o, l, h⟩
          · cases pl
          · cases e
            have := same_row o (.inr o1)
            subst this
            exact ⟨l, h⟩
        refine ⟨_, rfl, _, _, rfl, .inr ⟨_, .inl (.inl o1), rfl⟩, _, rfl, _, _, rfl, .inr ⟨_, .inl (.inl o2), rfl⟩, rfl, _, rfl, ?_⟩
        have rows : ∀ h : SameR rel H (.ref p) (.ref r), xs.length = ys.length ∧ ∀ (i : Nat) (x' y' : V), xs[i]? = some x' → ys[i]? = some y' → rel H x' y' := fun h => by
          rcases h with ⟨_, pl⟩ | ⟨p', q', xs', ys', e1, e2, h, l, _, rr⟩
          · cases pl
          · cases e1
            cases e2
            have g1 := same_row (h.elim (fun z => .inr z.1) fun z => .inl z.1) (.inr o1)
            have g2 := same_row (h.elim (fun z => .inr z.2) fun z => .inl z.2) (.inr o2)
            subst g1
            subst g2
            exact ⟨l, rr⟩
        by_cases hl : xs.length = ys.length
        · refine iteN (by rw [hl]; simp) ?_
          refine ⟨_, rfl, _, _, rfl, .inr ⟨_, .inl (.inl o2), rfl⟩, (ys.length : Int), rfl, by omega, by omega, ?_⟩
          refine for_range (lo := 0) (n := (ys.length : Int).toNat) (fun i σ H' => ∃ z : Option V, σ = [some (.ref p), some (.ref r), z] ∧ H' = H ∧ ∀ k : Nat, k < i → ∀ x' y' : V, xs[k]? = some x' → ys[k]? = some y' → rel H x' y') ⟨none, rfl, rfl, fun k h => by omega⟩ ?_ ?_
          · rintro i σ H' hn ⟨z, rfl, rfl, done⟩
            have hn' : i < ys.length := hn
            have hx' : xs[i]? = some xs[i] := List.getElem?_eq_getElem (by omega)
            have hy' : ys[i]? = some ys[i] := List.getElem?_eq_getElem hn'
            refine ⟨_, rfl, _, rfl, .inr (.inl ⟨_, _, _, _, rfl, rfl, .inl (.inl o1), (by rw [Int.zero_add]; exact atI_nat hx'), _, rfl, _, rfl, .inr (.inl ⟨_, _, _, _, rfl, rfl, .inl (.inl o2), (by rw [Int.zero_add]; exact atI_nat hy'), _, _, rfl, hx.2 _ (List.getElem_mem _), hy _ (List.getElem_mem _), fun b hb => ⟨_, rfl, ?_⟩⟩)⟩)⟩
            cases b with
            | false =>
              refine iteC rfl (q false ⟨fun h => (by cases h), fun h => ?_⟩)
              cases hb.mpr ((rows h).2 i _ _ hx' hy')
            | true =>
              refine iteN rfl ⟨_, rfl, rfl, fun k hk x' y' ex ey => ?_⟩
              by_cases g : k < i
              · exact done k g x' y' ex ey
              · have g : k = i := by omega
                subst g
                rw [hx'] at ex
                rw [hy'] at ey
                cases ex
                cases ey
                exact hb.mp rfl
          · rintro σ H' ⟨z, rfl, rfl, done⟩
            refine q true ⟨fun _ => .inr ⟨p, r, xs, ys, rfl, rfl, .inl ⟨o1, o2⟩, hl, ly, fun i x' y' ex ey => done i ?_ x' y' ex ey⟩, fun _ => rfl⟩
            have := (List.getElem?_eq_some_iff.mp ey).1
            show i < (ys.length : Int).toNat
            omega
        · refine iteC (by rw [decide_eq_false (fun e => hl (by have := V.int.inj e; omega))]; rfl) (q false ⟨fun h => (by cases h), fun h => (hl (rows h).1).elim⟩)
theorem fnOk_noSame {f : Addr} {fd : FuncData} {ps : List Str} {k : Nat} : FnOk P w K mg base CX0 k f fd ps (sp_sameB (fun _ _ _ => False) fun _ _ => False) :=
  ⟨fun vs H Q E h => by obtain ⟨_, _, _, h, _⟩ := h; exact h.elim, fun A outer s H args us vs Q E _ _ _ _ h => by obtain ⟨_, _, _, h, _⟩ := h; exact h.elim⟩
theorem ok_sameBN (T : Txt K mg base) : ∀ n : Nat, FnOk P w K mg base CX0 (n + 1) T.f_same T.fd_same ["actual", "expected"] (sp_sameB (SameD n) (DeepN n))
  | 0 => sameB_step T fnOk_noSame
  | n + 1 => sameB_step T (ok_sameBN T n)
theorem ok_sameB (T : Txt K mg base) : FnOk P w K mg base CX0 10 T.f_same T.fd_same ["actual", "expected"] (sp_sameB (SameD 9) (DeepN 9)) := ok_sameBN T 9

/-- the lists in a text (k = 1), in a list of texts (k = 2) -/
def sp_lists [Tabl] (k : Nat) : Sp := fun vs H Q _ => (∃ x : Str, 1 ≤ k ∧ vs = [.str x] ∧ ∀ (p : Addr) (H' : Hp), Same H H' → H p = none → H' p = some (.lst []) → Q (.ref p) H') ∨
  (2 ≤ k ∧ ∃ (a : Addr) (xs : List Str), vs = [.ref a] ∧ H a = some (.lst (xs.map V.str)) ∧ ∀ (p : Addr) (H' : Hp), Same H H' → H p = none → H' p = some (.lst [.ref a]) → Q (.ref p) H')
theorem any_no {t : Value} {a b : Value} {K : PySem.W.Frag} (h : PySem.W.kitOne K t a = some false) (k : PySem.W.kitOne K t b = some false) : PySem.W.kitAny K t [a, b] = some false :=
  kitAny_cons h (fun _ => kitAny_cons k (fun _ => rfl) (fun z => z)) (fun z => by cases z)
theorem any_first {t : Value} {a b : Value} {K : PySem.W.Frag} (h : PySem.W.kitOne K t a = some true) : PySem.W.kitAny K t [a, b] = some true :=
  kitAny_cons h (fun z => by cases z) (fun _ => rfl)
theorem lists_step {j k : Nat} (T : Txt K mg base) (G : FnOk P w K mg base CX0 j T.f_lists T.fd_lists ["value"] (sp_lists k)) : FnOk P w K mg base CX0 (j + 1) T.f_lists T.fd_lists ["value"] (sp_lists (k + 1)) := by
  refine T.F_lists.ok sc_lists (fun vs H Q E h => ?_) (fun cdv A outer s H vs Q E hr h => ?_)
  · obtain ⟨x, _, rfl, _⟩ | ⟨_, a, xs, rfl, _⟩ := h <;> rfl
  · refine ⟨_, (pss_cons (ps_set (i := 1) sc_lists.nd rfl (.inl rfl) (pe_lst pa_nil))
      (pss_cons (ps_if (pt_val (pe_callB call_isiT (by rfl) T.z_isinstance (by decide +kernel) (pa_cons (pv 0) (pa_cons (pe_tup (pa_cons (pe_bltn (v := .ty "list") (by rfl) T.z_list (by decide +kernel) rfl) (pa_cons (pe_bltn (v := .ty "tuple") (by rfl) T.z_tuple (by decide +kernel) rfl) pa_nil))) pa_nil)))) (pss_one (ps_for PassesOwn.never rfl (pi_list (pv 0)) (pg_name (i := 2) sc_lists.nd rfl (.inl rfl)) (pss_one (ps_set (i := 1) sc_lists.nd rfl (.inl rfl) (pe_op op_cat (pv 1) (pe_call G (hr.mono (by first | decide | exact Nat.le_refl _)) (by rfl) T.g_lists T.F_lists.kp T.b_lists .nil pass0 (pa_cons (pv 2) pa_nil))))))) pss_nil)
      (pss_cons (ps_if (pt_val (pe_callB call_isi (by rfl) T.z_isinstance (by decide +kernel) (pa_cons (pv 0) (pa_cons (pe_bltn (v := .ty "list") (by rfl) T.z_list (by decide +kernel) rfl) pa_nil)))) (pss_one (ps_set (i := 1) sc_lists.nd rfl (.inl rfl) (pe_op op_cat (pv 1) (pe_lst (pa_cons (pv 0) pa_nil))))) pss_nil)
      (pss_one (ps_ret (pv 1)))))), ?_⟩
    refine ⟨by show 0 ≤ sizeLine; decide, fun r nr => ?_⟩
    have k1 := same_new (o := .lst []) nr
    have hr0 : (upd H r (.lst [])) r = some (.lst []) := upd_same
    rcases h with ⟨x, _, rfl, q⟩ | ⟨hk, a, xs, rfl, ha, q⟩
    · generalize upd H r (.lst []) = H1 at k1 hr0 ⊢
      refine ⟨_, rfl, by show 2 ≤ sizeLine; decide, fun tp nt => ?_⟩
      have k2 := same_new (o := .tup [.ty "list", .ty "tuple"]) nt
      refine ⟨_, tp, _, .type "str", [.type "list", .type "tuple"], false, rfl, upd_same, .cons (.ty _) (.cons (.ty _) .nil), .base (.str x), any_no (kit_ty (by decide +kernel)) (kit_ty (by decide +kernel)), _, rfl, iteF ?_⟩
      refine ⟨_, rfl, _, _, _, _, false, rfl, .ty _, .base (.str x), kit_ty (by decide +kernel), _, rfl, iteF ?_⟩
      exact ⟨_, rfl, q r _ (k1.trans k2) nr (k2 _ _ hr0)⟩
    · have ha1 := k1 _ _ ha
      have ra : r ≠ a := fun e => by rw [e, ha] at nr; cases nr
      generalize upd H r (.lst []) = H1 at k1 hr0 ha1 ⊢
      refine ⟨_, rfl, by show 2 ≤ sizeLine; decide, fun tp nt => ?_⟩
      have k2 := same_new (o := .tup [.ty "list", .ty "tuple"]) nt
      have hT : (upd H1 tp (.tup [.ty "list", .ty "tuple"])) tp = some (.tup [.ty "list", .ty "tuple"]) := upd_same
      have ha2 := k2 _ _ ha1
      have hr2 := k2 _ _ hr0
      generalize upd H1 tp (.tup [.ty "list", .ty "tuple"]) = H2 at k2 hT ha2 hr2 ⊢
      refine ⟨_, tp, _, .type "list", [.type "list", .type "tuple"], true, rfl, hT, .cons (.ty _) (.cons (.ty _) .nil), .base (.lst ha2), any_first (kit_ty (by decide +kernel)), _, rfl, iteT ?_⟩
      refine ⟨_, rfl, a, rfl, ⟨_, .inl (.inl ha2)⟩, for_list (K := K) (a := a) (xs := xs.map V.str) (fun i σ H' => ∃ (p : Addr) (y : Option V), σ = [some (.ref a), some (.ref p), y] ∧ Same H H' ∧ H p = none ∧ H' p = some (.lst []) ∧ H' a = some (.lst (xs.map V.str)))
        ⟨r, none, rfl, k1.trans k2, nr, hr2, ha2⟩ (fun i σ H' _ h => (match h with | ⟨_, _, _, _, _, _, e⟩ => .inl (.inl e))) ?_ ?_⟩
      · rintro i v σ H3 hv ⟨p, y, rfl, sm, np, hp, ha3⟩
        obtain ⟨x, _, rfl⟩ := List.mem_map.mp (List.mem_of_getElem? hv)
        refine ⟨_, rfl, _, rfl, .inl ⟨x, by omega, rfl, fun p2 H4 s4 np2 hp2 => ?_⟩⟩
        refine ⟨p, p2, [], [], rfl, rfl, s4 _ _ hp, hp2, by show 0 ≤ sizeLine; decide, fun p3 np3 => ?_⟩
        have k5 := same_new (o := .lst ([] ++ [])) np3
        exact ⟨p3, _, rfl, (sm.trans s4).trans k5, sm.free (s4.free np3), upd_same, k5 _ _ (s4 _ _ ha3)⟩
      · rintro σ H3 ⟨p, y, rfl, sm, np, hp, ha3⟩
        refine ⟨_, rfl, _, _, _, _, true, rfl, .ty _, .base (.lst ha3), kit_ty (by decide +kernel), _, rfl, iteT ?_⟩
        refine ⟨_, rfl, _, rfl, by show 1 ≤ sizeLine; decide, fun p2 np2 => ?_⟩
        have k4 := same_new (o := .lst [.ref a]) np2
        refine ⟨p, p2, [], [.ref a], rfl, rfl, k4 _ _ hp, upd_same, by show 1 ≤ sizeLine; decide, fun p3 np3 => ?_⟩
        have k5 := same_new (o := .lst ([] ++ [.ref a])) np3
        exact ⟨_, rfl, q p3 _ ((sm.trans k4).trans k5) (sm.free (k4.free np3)) upd_same⟩
theorem fnOk_noLists {f : Addr} {fd : FuncData} {ps : List Str} {k : Nat} : FnOk P w K mg base CX0 k f fd ps (sp_lists 0) :=
  ⟨fun vs H Q E h => by rcases h with ⟨_, h, _⟩ | ⟨h, _⟩ <;> omega, fun A outer s H args us vs Q E _ _ _ _ h => by rcases h with ⟨_, h, _⟩ | ⟨h, _⟩ <;> omega⟩
theorem ok_lists (T : Txt K mg base) : FnOk P w K mg base CX0 (1 + 1) T.f_lists T.fd_lists ["value"] (sp_lists 2) := lists_step T (lists_step T fnOk_noLists)

def wrecked (xs : List V) : List V := xs.reverse ++ [.str (Str.ofString "wrecked")]
/-- a list of texts, spoilt -/
def sp_wreck [Tabl] (_ : PySem.W.Frag) : Sp := fun vs H Q _ => ∃ (a : Addr) (xs : List Str), vs = [.ref a] ∧ H a = some (.lst (xs.map V.str)) ∧ xs.length ≤ 1000000 ∧ ∀ (H1 H' : Hp), Same H H1 → H1 a = some (.lst (xs.map V.str)) → H' = upd H1 a (.lst (wrecked (xs.map V.str))) → Q .non H'
theorem ok_wreck (T : Txt K mg base) : FnOk P w K mg base CX0 (2 + 1) T.f_wreck T.fd_wreck ["value"] (sp_wreck K) := by
  refine T.F_wreck.ok sc_wreck (fun vs H Q E h => ?_) (fun cdv A outer s H vs Q E hr h => ?_)
  · obtain ⟨a, xs, rfl, _⟩ := h
    rfl
  · obtain ⟨a, xs, rfl, ha, len, q⟩ := h
    refine ⟨_, (pss_one (ps_for PassesOwn.never rfl (pi_list (pe_call (ok_lists T) (hr.mono (by first | decide | exact Nat.le_refl _)) (by rfl) T.g_lists T.F_lists.kp T.b_lists .nil pass0 (pa_cons (pv 0) pa_nil))) (pg_name (i := 1) sc_wreck.nd rfl (.inl rfl)) (pss_cons (ps_expr (pe_bm0 PySem.F.plainAttrs_list PySem.F.slot_list_reverse PySem.F.type_list_reverse mt_reverse (pv 1)))
      (pss_one (ps_expr (pe_bm PySem.F.plainAttrs_list PySem.F.slot_list_append PySem.F.type_list_append mt_append (pv 1) (pa_cons pe_str pa_nil))))))), ?_⟩
    refine ⟨_, rfl, .inr ⟨by decide, a, xs, rfl, ha, fun p H1 s1 np hp => ?_⟩⟩
    have ha1 := s1 _ _ ha
    have pa : p ≠ a := fun e => by rw [e, ha] at np; cases np
    refine ⟨p, rfl, ⟨_, .inl (.inl hp)⟩, for_list (K := K) (a := p) (xs := [.ref a]) (fun i σ H' => (∃ y : Option V, σ = [some (.ref a), y]) ∧ H' p = some (.lst [.ref a]) ∧ (i = 0 → H' = H1) ∧ (i = 1 → H' = upd H1 a (.lst (wrecked (xs.map V.str)))))
      ⟨⟨none, rfl⟩, hp, fun _ => rfl, (fun z => (by cases z))⟩ (fun i σ H' _ h => .inl (.inl h.2.1)) ?_ ?_⟩
    · rintro i v σ H2 hv ⟨⟨y, rfl⟩, hp2, e0, _⟩
      have i0 : i = 0 := by
        have := (List.getElem?_eq_some_iff.mp hv).1
        simpa using this
      subst i0
      have e0 := e0 rfl
      subst e0
      have ev : V.ref a = v := Option.some.inj hv
      subst ev
      refine ⟨_, rfl, .inl ⟨rfl, _, .inl (.inl ha1)⟩, a, _, rfl, rfl, ha1, ?_⟩
      have h3 : (upd H2 a (.lst (xs.map V.str).reverse)) a = some (.lst (xs.map V.str).reverse) := upd_same
      refine ⟨_, rfl, .inl ⟨rfl, _, .inl (.inl h3)⟩, a, _, _, rfl, rfl, h3, ?_, ⟨_, rfl⟩, ?_, (fun z => (by cases z)), fun _ => ?_⟩
      · rw [List.length_reverse, List.length_map]
        exact Nat.lt_of_le_of_lt len (by decide)
      · rw [upd_ne pa, upd_ne pa]
        exact hp2
      · exact upd_upd ..
    · rintro σ H2 ⟨⟨y, rfl⟩, _, _, e1⟩
      exact q H1 H2 s1 ha1 (e1 rfl)

theorem sing_list {l : List Str} {a : List Nat} (nd : l.Nodup) (m : ∀ k, k ∈ l ↔ ∃ c ∈ a, k = PySem.Froz.sing c) : ∃ ns : List Nat, l = ns.map PySem.Froz.sing ∧ ns.Nodup ∧ ∀ c, c ∈ ns ↔ c ∈ a := by
  have e : l = (l.map fun k => (cs k).headD 0).map PySem.Froz.sing := by
    rw [List.map_map]
    refine (List.map_id'' (fun _ => rfl) l).symm.trans (List.map_congr_left fun k hk => ?_)
    obtain ⟨c, _, rfl⟩ := (m k).mp hk
    rfl
  refine ⟨_, e, ?_, fun c => ?_⟩
  · rw [e] at nd
    exact (List.Pairwise.of_map PySem.Froz.sing (fun a b hne q => hne (congrArg _ q)) nd)
  · constructor
    · intro h
      obtain ⟨k, hk, e2⟩ := List.mem_map.mp h
      obtain ⟨d, hd, rfl⟩ := (m k).mp hk
      have : d = c := e2
      rw [← this]
      exact hd
    · intro h
      exact List.mem_map.mpr ⟨PySem.Froz.sing c, (m _).mpr ⟨c, h, rfl⟩, rfl⟩
def sp_is_letters (_ : PySem.W.Frag) : Sp := fun vs H Q _ => ∃ v : V, vs = [v] ∧ Shal H v ∧ Good H ∧ ∀ (b : Bool) (H' : Hp), (b = true ↔ ∃ x, v = .str x ∧ IsAlpha x) → Same H H' → Q (.bl b) H'
theorem ok_is_letters (T : Txt K mg base) : FnOk P w K mg base CX0 (0 + 1) T.f_is_letters T.fd_is_letters ["value"] (sp_is_letters K) := by
  refine T.F_is_letters.ok sc_is_letters (fun vs H Q E h => ?_) (fun A outer s H vs Q E hr h => ?_)
  · obtain ⟨x, rfl, _⟩ := h
    rfl
  · obtain ⟨v, rfl, sv, good, q⟩ := h
    refine ⟨_, (pss_cons (ps_if (PW.pt (pw_or (pt_not (pt_val (pe_callB call_isi (by rfl) T.z_isinstance (by decide +kernel) (pa_cons (pv 0) (pa_cons (pe_bltn (v := .ty "str") (by rfl) T.z_str (by decide +kernel) rfl) pa_nil))))) (pw_or1 (pt_not (pt_chain op_le op_le pe_int (pe_callB call_len_str (by rfl) T.z_len PySem.boot_len (pa_cons (pv 0) pa_nil)) (pe_glob (v := .int 4) (by rfl) T.c_MAX_LETTERS ⟨_, rfl⟩)))))) (pss_one (ps_ret pe_bl)) pss_nil)
      (pss_cons (ps_if (pt_not (pt_val (GQ.pe_allG hr T.z_all T.c_SMALL_LETTERS T.B_is_letters T.m_is_letters rfl (GQ.genB_by (sc := defScope s_is_letters) (by decide +kernel)) (pv 0)))) (pss_one (ps_ret pe_bl)) pss_nil)
      (pss_one (ps_ret (pe_cmpR (op_eqD hr.units) (pe_callTy (cr_listT rfl) (by rfl) T.z_list (by decide +kernel) (pa_cons (pv 0) pa_nil)) (pe_callB (SetQ.cr_sortedTx rfl) (by rfl) T.z_sorted (by decide +kernel) (pa_cons (pe_callTy (SetQ.cr_setT2 rfl) (by rfl) T.z_set (by decide +kernel) (pa_cons (pv 0) pa_nil)) pa_nil)) (nomark _)))))), ?_⟩
    obtain ⟨ty, hty, kt⟩ := isi_str (K := K) sv
    refine ⟨_, rfl, _, _, _, _, _, rfl, .ty _, hty, kt, _, rfl, ?_⟩
    cases hs : isStr v with
    | false =>
      refine iteC rfl ?_
      refine iteC rfl ?_
      refine q false _ ⟨fun h => (by cases h), fun h => ?_⟩ (.refl H)
      obtain ⟨x, rfl, _⟩ := h
      cases hs
    | true =>
    obtain ⟨x, rfl⟩ := isStr_of hs
    have sx := sv.text
    replace q : ∀ (b : Bool) (H' : Hp), (b = true ↔ IsAlpha x) → Same H H' → Q (.bl b) H' := fun b H' h s => q b H' (h.trans ⟨fun a => ⟨x, rfl, a⟩, fun ⟨y, e, a⟩ => by cases e; exact a⟩) s
    refine iteF ?_
    refine ⟨_, rfl, x, rfl, small_text sx, _, _, rfl, rfl, _, rfl, ite2 (fun g1 => ?_) (fun g1 => ?_)⟩
    · refine ⟨_, _, rfl, rfl, _, rfl, ?_⟩
      have g1 : 1 ≤ x.length := by
        have := of_decide_eq_true g1
        omega
      by_cases g2 : x.length ≤ 4
      · refine iteN (by rw [decide_eq_true (by omega)]; rfl) ?_
        refine ⟨_, rfl, x, rfl, good, fun H1 s1 => ?_⟩
        by_cases g3 : (x.cps.toList.all fun c => decide (c ∈ (Str.ofString "abcdefghijklmnopqrstuvwxyz").cps.toList)) = true
        · refine ⟨_, rfl, iteN (by rw [g3]; rfl) ?_⟩
          have low : ∀ c ∈ cs x, 97 ≤ c ∧ c ≤ 122 := fun c hc => abc_low c (of_decide_eq_true (List.all_eq_true.mp g3 c hc))
          refine ⟨_, rfl, x, rfl, small_text sx, fun p1 n1 => ?_⟩
          have asc : x.cps.all (· < 128) = true := by
            rw [← Array.all_toList]
            refine List.all_eq_true.mpr fun c hc => decide_eq_true ?_
            have := low c hc
            omega
          have ln : x.cps.toList.length = x.length := cs_len x
          refine ⟨_, rfl, x, rfl, asc, by rw [ln]; omega, fun p2 l n2 nd mem le => ?_⟩
          obtain ⟨ns, rfl, nn, mm⟩ := sing_list nd mem
          refine ⟨p2, _, rfl, upd_same, nd, ?_, fun ws p3 srt perm n3 => ?_⟩
          · rw [ln] at le
            omega
          · obtain ⟨ds, ew, pm, le⟩ := SetQ.sorted_sing srt perm
            have e3 : ws.map V.str = ds.map signV := by
              rw [ew, List.map_map]
              rfl
            have m3 : ∀ d ∈ ds, d < 128 := fun d hd => by
              have := low d ((mm d).mp (pm.mem_iff.mp hd))
              omega
            refine ⟨_, _, dp_signs (SqL.of (same_new n3 _ _ (same_new n2 _ _ upd_same))), dp_signs (SqL.of (by rw [upd_same, e3])), shaped_signs fun c hc => ?_, shaped_signs m3, q _ _ ?_ (((s1.trans (same_new n1)).trans (same_new n2)).trans (same_new n3))⟩
            · have := low c hc
              omega
            · show PyData.eqvAll _ _ = true ↔ _
              rw [eqv_signs, decide_eq_true_iff]
              constructor
              · intro e
                have e' : cs x = ds := e
                have asc : (cs x).Pairwise (· < ·) := by
                  rw [e']
                  exact (List.Pairwise.and le (pm.nodup_iff.mpr nn)).imp fun h => Nat.lt_of_le_of_ne h.1 h.2
                exact ⟨asc, low, g1, g2⟩
              · intro h
                have nx : (cs x).Nodup := h.asc.imp fun h => Nat.ne_of_lt h
                exact SetQ.le_unique ((List.perm_ext_iff_of_nodup nx (pm.nodup_iff.mpr nn)).mpr fun c => ((mm c).symm.trans pm.mem_iff.symm)) (h.asc.imp fun h => Nat.le_of_lt h) le
        · refine ⟨_, rfl, iteC (by rw [Bool.eq_false_iff.mpr g3]; rfl) ?_⟩
          refine q false _ ⟨fun h => (by cases h), fun h => absurd (List.all_eq_true.mpr fun c hc => decide_eq_true ?_) g3⟩ s1
          have := h.low c hc
          show c ∈ cs abc
          rw [cs_abc, List.mem_range'_1]
          omega
      · refine iteC (by rw [decide_eq_false (by omega)]; rfl) ?_
        exact q false _ ⟨fun h => (by cases h), fun h => absurd h.len4 g2⟩ (.refl H)
    · refine ⟨_, rfl, iteC rfl ?_⟩
      refine q false _ ⟨fun h => (by cases h), fun h => absurd (decide_eq_true ?_) g1⟩ (.refl H)
      have := h.len1
      omega

def sp_check_letters [Tabl] (C : Addr) (_ : PySem.W.Frag) : Sp := fun vs H Q E => ∃ v : V, vs = [v] ∧ Shal H v ∧ Good H ∧ (AlphaV v → ∀ H' : Hp, Same H H' → Q v H') ∧ (¬ AlphaV v → Raised H C v E)
theorem ok_check_letters (T : Txt K mg base) : FnOk P w K mg base (L2.CX P w) (3 + 1) T.f_check_letters T.fd_check_letters ["letters"] (sp_check_letters T.C_BadLetters K) := by
  refine T.F_check_letters.okX sc_check_letters (fun vs H Q E h => ?_) (fun cdv A outer s H vs Q E hr h => ?_)
  · obtain ⟨z, rfl, _⟩ := h
    rfl
  · obtain ⟨v, rfl, sv, good, q, qe⟩ := h
    refine ⟨_, (pss_cons (ps_if (pt_not (pt_val (pe_call (ok_is_letters T) (hr.mono (by first | decide | exact Nat.le_refl _)) (by rfl) T.g_is_letters T.F_is_letters.kp T.b_is_letters .nil pass0 (pa_cons (pv 0) pa_nil)))) (pss_one (ps_raise rfl (takes_of rfl rfl rfl rfl) (pmk_err1 T.E_BadLetters T.iI_BadLetters T.tI_BadLetters T.no_BadLetters_value (ok_init1 (k := 0) (p4 := ⟨0, 0, 0, 0⟩) T.FI_BadLetters sci_BadLetters (by decide) rfl) (hr.mono (by first | decide | exact Nat.le_refl _)) T.bI_BadLetters pass0 (pa_cons (pv 0) pa_nil)))) pss_nil)
      (pss_one (ps_ret (pv 0)))), ?_⟩
    refine ⟨_, rfl, v, rfl, sv, good, fun b H1 hb s1 => ⟨_, rfl, ?_⟩⟩
    cases b with
    | true => exact iteF ⟨_, rfl, q (hb.mp rfl) H1 s1⟩
    | false => exact iteC rfl ⟨_, rfl, _, rfl, fun d nd => qe (fun h => by cases hb.mpr h) d H1 _ s1 nd rfl⟩

def sp_is_whole (_ : PySem.W.Frag) : Sp := fun vs H Q _ => ∃ v : V, vs = [v] ∧ Shal H v ∧ Q (.bl (isInt v)) H
theorem ok_is_whole (T : Txt K mg base) : FnOk P w K mg base CX0 (0 + 1) T.f_is_whole T.fd_is_whole ["value"] (sp_is_whole K) := by
  refine T.F_is_whole.ok sc_is_whole (fun vs H Q E h => ?_) (fun cdv A outer s H vs Q E hr h => ?_)
  · obtain ⟨i, rfl, _⟩ := h
    rfl
  · obtain ⟨v, rfl, sv, q⟩ := h
    refine ⟨_, (pss_one (ps_ret (pe_and (pe_callB call_isi (by rfl) T.z_isinstance (by decide +kernel) (pa_cons (pv 0) (pa_cons (pe_bltn (v := .ty "int") (by rfl) T.z_int (by decide +kernel) rfl) pa_nil))) (pe_one (pe_not (pe_callB call_isi (by rfl) T.z_isinstance (by decide +kernel) (pa_cons (pv 0) (pa_cons (pe_bltn (v := .ty "bool") (by rfl) T.z_bool (by decide +kernel) rfl) pa_nil)))))))), ?_⟩
    obtain ⟨t1, h1, k1⟩ := isi_int (K := K) sv
    obtain ⟨t2, h2, k2⟩ := isi_bool (K := K) sv
    refine ⟨_, rfl, _, _, _, _, _, rfl, .ty _, h1, k1, _, rfl, ?_⟩
    cases e : (isInt v || isBl v) with
    | false =>
      refine iteF ?_
      have : isInt v = false := by
        cases hv : isInt v <;> rw [hv] at e <;> first | rfl | cases e
      rw [this] at q
      exact q
    | true =>
      refine iteT ⟨_, rfl, _, _, _, _, _, rfl, .ty _, h2, k2, _, rfl, ?_⟩
      have : (!isBl v) = isInt v := by
        cases v <;> first | rfl | cases e
      rw [this]
      exact q

def sp_in_range (_ : PySem.W.Frag) : Sp := fun vs H Q _ => ∃ (v : V) (lo hi : Int), vs = [v, .int lo, .int hi] ∧ Shal H v ∧ Q (.bl (inR v lo hi)) H
theorem ok_in_range (T : Txt K mg base) : FnOk P w K mg base CX0 (1 + 1) T.f_in_range T.fd_in_range ["value", "low", "high"] (sp_in_range K) := by
  refine T.F_in_range.ok sc_in_range (fun vs H Q E h => ?_) (fun cdv A outer s H vs Q E hr h => ?_)
  · obtain ⟨v, lo, hi, rfl, _⟩ := h
    rfl
  · obtain ⟨v, lo, hi, rfl, sv, q⟩ := h
    refine ⟨_, (pss_one (ps_ret (pe_and (pe_call (ok_is_whole T) (hr.mono (by first | decide | exact Nat.le_refl _)) (by rfl) T.g_is_whole T.F_is_whole.kp T.b_is_whole .nil pass0 (pa_cons (pv 0) pa_nil)) (pe_one (pe_chain op_le op_le (pv 1) (pv 0) (pv 2)))))), ?_⟩
    refine ⟨_, rfl, v, rfl, sv, _, rfl, ?_⟩
    cases hv : isInt v with
    | false =>
      refine iteF ?_
      have : inR v lo hi = false := by
        cases v <;> first | rfl | cases hv
      rw [this] at q
      exact q
    | true =>
      obtain ⟨i, rfl⟩ := isInt_of hv
      refine iteT ?_
      refine ⟨_, rfl, _, rfl, _, _, rfl, rfl, _, rfl, ?_⟩
      by_cases h : lo ≤ i
      · rw [decide_eq_true h]
        refine iteT ⟨_, rfl, _, _, rfl, rfl, ?_⟩
        have : inR (.int i) lo hi = decide (i ≤ hi) := by
          show (decide (lo ≤ i) && decide (i ≤ hi)) = _
          rw [decide_eq_true h, Bool.true_and]
        rw [this] at q
        exact q
      · rw [decide_eq_false h]
        refine iteF ?_
        have : inR (.int i) lo hi = false := by
          show (decide (lo ≤ i) && decide (i ≤ hi)) = _
          rw [decide_eq_false h, Bool.false_and]
        rw [this] at q
        exact q

def sp_check_number [Tabl] (C : Addr) (_ : PySem.W.Frag) : Sp := fun vs H Q E => ∃ (v : V) (lo hi : Int), vs = [v, .int lo, .int hi] ∧ Shal H v ∧ (inR v lo hi = true → Q v H) ∧ (inR v lo hi = false → Raised H C v E)
theorem ok_check_number (T : Txt K mg base) : FnOk P w K mg base (L2.CX P w) (4 + 1) T.f_check_number T.fd_check_number ["value", "low", "high"] (sp_check_number T.C_BadNumber K) := by
  refine T.F_check_number.okX sc_check_number (fun vs H Q E h => ?_) (fun cdv A outer s H vs Q E hr h => ?_)
  · obtain ⟨v, lo, hi, rfl, _⟩ := h
    rfl
  · obtain ⟨v, lo, hi, rfl, sv, q, qe⟩ := h
    refine ⟨_, (pss_cons (ps_if (pt_not (pt_val (pe_call (ok_in_range T) (hr.mono (by first | decide | exact Nat.le_refl _)) (by rfl) T.g_in_range T.F_in_range.kp T.b_in_range .nil pass0 (pa_cons (pv 0) (pa_cons (pv 1) (pa_cons (pv 2) pa_nil)))))) (pss_one (ps_raise rfl (takes_of rfl rfl rfl rfl) (pmk_err1 T.E_BadNumber T.iI_BadNumber T.tI_BadNumber T.no_BadNumber_value (ok_init1 (k := 0) (p4 := ⟨0, 0, 0, 0⟩) T.FI_BadNumber sci_BadNumber (by decide) rfl) (hr.mono (by first | decide | exact Nat.le_refl _)) T.bI_BadNumber pass0 (pa_cons (pv 0) pa_nil)))) pss_nil)
      (pss_one (ps_ret (pv 0)))), ?_⟩
    refine ⟨_, rfl, _, rfl, _, rfl, v, lo, hi, rfl, sv, _, rfl, ?_⟩
    cases e : inR v lo hi with
    | true => exact iteF ⟨_, rfl, q e⟩
    | false => exact iteC rfl ⟨_, rfl, _, rfl, fun d nd => qe e d H _ (.refl H) nd rfl⟩

/-- the words of k signs, and those of at most k -/
def levW (z : List Nat) : Nat → List (List Nat)
  | 0 => [[]]
  | k + 1 => (levW z k).flatMap fun w => z.map fun c => w ++ [c]
def allW (z : List Nat) : Nat → List (List Nat)
  | 0 => [[]]
  | k + 1 => allW z k ++ levW z (k + 1)
theorem levW_len (z : List Nat) : ∀ k, (levW z k).length = z.length ^ k
  | 0 => rfl
  | k + 1 => by
    have ih := levW_len z k
    show ((levW z k).flatMap fun w => z.map fun c => w ++ [c]).length = _
    rw [List.length_flatMap]
    have : (levW z k).map (fun w => (z.map fun c => w ++ [c]).length) = List.replicate (levW z k).length z.length := by
      rw [← List.map_const']
      exact List.map_congr_left fun w _ => List.length_map ..
    rw [this, List.sum_replicate_nat, ih, Nat.pow_succ]
theorem levW_word (z : List Nat) : ∀ (k : Nat) (w : List Nat), w ∈ levW z k → w.length = k
  | 0, w, h => by
    rw [List.mem_singleton.mp h]
    rfl
  | k + 1, w, h => by
    obtain ⟨u, hu, hw⟩ := List.mem_flatMap.mp h
    obtain ⟨c, _, rfl⟩ := List.mem_map.mp hw
    rw [List.length_append, levW_word z k u hu]
    rfl
theorem levW_small {z : List Nat} (l4 : z.length ≤ 4) {k : Nat} (k6 : k ≤ 6) : (levW z k).length ≤ 4096 := by
  rw [levW_len]
  exact Nat.le_trans (Nat.pow_le_pow_left l4 k) (Nat.le_trans (Nat.pow_le_pow_right (by decide) k6) (by decide))
theorem allW_small {z : List Nat} (l4 : z.length ≤ 4) : ∀ {k : Nat}, k ≤ 6 → (allW z k).length ≤ 4096 * (k + 1)
  | 0, _ => by
    show 1 ≤ _
    decide
  | k + 1, k6 => by
    have a := allW_small l4 (k := k) (by omega)
    have b := levW_small l4 k6
    show (allW z k ++ levW z (k + 1)).length ≤ _
    rw [List.length_append]
    omega
theorem allW_word (z : List Nat) : ∀ (k : Nat) (w : List Nat), w ∈ allW z k → w.length ≤ k
  | 0, w, h => by
    rw [List.mem_singleton.mp h]
    exact Nat.zero_le _
  | k + 1, w, h => by
    rcases List.mem_append.mp h with h | h
    · exact Nat.le_succ_of_le (allW_word z k w h)
    · exact Nat.le_of_eq (levW_word z (k + 1) w h)
def strV (w : List Nat) : V := .str ⟨w.toArray⟩
def sp_all_words [Tabl] (C D : Addr) (_ : PySem.W.Frag) : Sp := fun vs H Q E => ∃ L v : V, vs = [L, v] ∧ Shal H L ∧ Shal H v ∧ Good H ∧ (¬ AlphaV L → Raised H C L E) ∧ (AlphaV L → inR v 0 6 = false → Raised H D v E) ∧
  ∀ (z : Str) (n : Nat), L = .str z → IsAlpha z → v = .int (n : Int) → n ≤ 6 → ∀ (p : Addr) (H' : Hp), Same H H' → H p = none → H' p = some (.lst ((allW (cs z) n).map strV)) → Q (.ref p) H'
theorem ok_all_words (T : Txt K mg base) : FnOk P w K mg base (L2.CX P w) (5 + 1) T.f_all_words T.fd_all_words ["letters", "most"] (sp_all_words T.C_BadLetters T.C_BadNumber K) := by
  refine T.F_all_words.okX sc_all_words (fun vs H Q E h => ?_) (fun cdv A outer s H vs Q E hr h => ?_)
  · obtain ⟨L, v, rfl, _⟩ := h
    rfl
  · obtain ⟨L, v, rfl, sL, sv, good, qa, qn, q⟩ := h
    refine ⟨_, (pss_cons (ps_expr (pe_callS (ok_check_letters T) (hr.mono (by first | decide | exact Nat.le_refl _)) (by rfl) T.g_check_letters T.F_check_letters.kp T.b_check_letters (fun σ => passAt (takes_of rfl rfl rfl rfl) σ) (pa_cons (pv 0) pa_nil)))
      (pss_cons (ps_expr (pe_callS (ok_check_number T) (hr.mono (by first | decide | exact Nat.le_refl _)) (by rfl) T.g_check_number T.F_check_number.kp T.b_check_number (fun σ => passAt (takes_of rfl rfl rfl rfl) σ) (pa_cons (pv 1) (pa_cons pe_int (pa_cons (pe_glob (v := .int 6) (by rfl) T.c_MAX_ALL_WORDS ⟨_, rfl⟩) pa_nil)))))
      (pss_cons (ps_set (i := 2) sc_all_words.nd rfl (.inl rfl) (pe_lst (pa_cons pe_str pa_nil)))
      (pss_cons (ps_set (i := 3) sc_all_words.nd rfl (.inl rfl) (pe_lst (pa_cons pe_str pa_nil)))
      (pss_cons (ps_for (passes_of rfl) rfl (pi_range1 (by rfl) T.z_range (pa_cons (pv 1) pa_nil)) (pg_name (i := 4) sc_all_words.nd rfl (.inl rfl)) (pss_cons (ps_setLc2 (i := 3) (own := [("word", 5), ("letter", 6)]) (vs1 := [6]) (g := gName 5) (g1 := gName 6) rfl sc_all_words.nd rfl rfl (sw_true rfl rfl rfl (by decide +kernel)) (pi_list (pv 3)) (blkOk_by (N := ["letters", "most", "words", "longest", "_", "word", "letter"]) (sc := defScope s_all_words) (by decide +kernel)) (by decide) (fun _ _ _ _ _ => pg_name (i := 5) sc_all_words.nd rfl (Or.inl rfl)) (fun _ _ _ _ _ => pts_nil) (fun _ _ _ _ _ => (pi_str (pv 0))) (fun _ _ _ _ _ => pg_name (i := 6) sc_all_words.nd rfl (Or.inl rfl)) (fun _ _ _ _ _ => pts_nil) (fun _ _ _ _ _ => (pe_op op_add_str (pv 5) (pv 6))))
      (pss_one (ps_expr (pe_bm PySem.F.plainAttrs_list PySem.F.slot_list_extend PySem.F.type_list_extend mt_extend (pv 2) (pa_cons (pe_callTy call_list_of (by rfl) T.z_list (by decide +kernel) (pa_cons (pv 3) pa_nil)) pa_nil))))))
      (pss_one (ps_ret (pv 2)))))))), ?_⟩
    refine ⟨_, rfl, L, rfl, sL, good, fun al H1 s1 => ?_, qa⟩
    refine ⟨_, rfl, v, 0, 6, rfl, sv.same s1, fun inr => ?_, fun nr => (qn al nr).same s1⟩
    obtain ⟨n, rfl, n6⟩ : ∃ n : Nat, v = .int (n : Int) ∧ n ≤ 6 := by
      cases v with
      | int i =>
        have := Bool.and_eq_true_iff.mp (show (decide (0 ≤ i) && decide (i ≤ 6)) = true from inr)
        have h0 := of_decide_eq_true this.1
        have h6 := of_decide_eq_true this.2
        exact ⟨i.toNat, by rw [Int.toNat_of_nonneg h0], by omega⟩
      | _ => cases inr
    obtain ⟨z, rfl, az⟩ := al
    replace q := q z n rfl az rfl n6
    have l4 : (cs z).length ≤ 4 := by
      rw [cs_len]
      exact az.len4
    refine ⟨by show 1 ≤ sizeLine; decide, fun W nW => ⟨by show 1 ≤ sizeLine; decide, fun l0 nl => ?_⟩⟩
    refine ⟨_, rfl, (n : Int), rfl, by omega, by omega, ?_⟩
    refine for_range (lo := 0) (n := (n : Int).toNat) (fun i σ H' => ∃ (l : Addr) (y : Option V), σ = [some (.str z), some (.int (n : Int)), some (.ref W), some (.ref l), y, none, none] ∧ H' W = some (.lst ((allW (cs z) i).map strV)) ∧ H' l = some (.lst ((levW (cs z) i).map strV)) ∧ l ≠ W ∧ Same H1 H')
      ⟨l0, none, rfl, same_new nl _ _ upd_same, upd_same, (fun e => by rw [e, upd_same] at nl; cases nl), (same_new nW).trans (same_new nl)⟩ ?_ ?_
    · rintro i σ H' hi ⟨l, y, rfl, hW, hl, ne, sm⟩
      have i6 : i + 1 ≤ 6 := by
        have : i < n := hi
        omega
      refine ⟨_, rfl, l, rfl, ⟨_, .inl (.inl hl)⟩, fun D nD => ?_⟩
      have dW : D ≠ W := fun e => by rw [e, hW] at nD; cases nD
      refine lc2_out (walk_list (K := K) (a := l) (xs := (levW (cs z) i).map strV)) (fun a H2 => Same H' H2 ∧ H2 D = some (.lst ((((levW (cs z) i).take a).flatMap fun w => (cs z).map fun c => w ++ [c]).map strV))) ⟨same_new nD, upd_same⟩ (fun a H2 _ h => .inl (.inl (h.1 _ _ hl))) ?_ ?_
      · rintro a x H2 H3 ha ⟨s2, hD⟩ ⟨rfl, hx⟩
        rw [List.getElem?_map] at hx
        cases ew : (levW (cs z) i)[a]? with
        | none =>
          rw [ew] at hx
          cases hx
        | some w =>
        rw [ew] at hx
        have ex : strV w = x := Option.some.inj hx
        subst ex
        have lw : w.length = i := levW_word _ _ _ (List.mem_of_getElem? ew)
        have la : a < (levW (cs z) i).length := (List.getElem?_eq_some_iff.mp ew).1
        have tk : (levW (cs z) i).take (a + 1) = (levW (cs z) i).take a ++ [w] := by
          rw [List.take_add_one, ew]
          rfl
        have ta : ((levW (cs z) i).take (a + 1)).flatMap (fun w => (cs z).map fun c => w ++ [c]) = ((levW (cs z) i).take a).flatMap (fun w => (cs z).map fun c => w ++ [c]) ++ (cs z).map fun c => w ++ [c] := by
          rw [tk, List.flatMap_append]
          simp
        have part : ∀ b : Nat, ((((levW (cs z) i).take a).flatMap fun w => (cs z).map fun c => w ++ [c]) ++ ((cs z).take b).map fun c => w ++ [c]).length ≤ 4096 * 4 + 4 := fun b => by
          rw [List.length_append, List.length_map, List.length_take]
          have h1 : (((levW (cs z) i).take a).flatMap fun w => (cs z).map fun c => w ++ [c]).length ≤ 4096 * 4 := by
            rw [List.length_flatMap]
            have e : ((levW (cs z) i).take a).map (fun w => ((cs z).map fun c => w ++ [c]).length) = List.replicate ((levW (cs z) i).take a).length (cs z).length := by
              rw [← List.map_const']
              exact List.map_congr_left fun w _ => List.length_map ..
            rw [e, List.sum_replicate_nat]
            have s4 := levW_small l4 (k := i) (by omega)
            have l5 : ((levW (cs z) i).take a).length ≤ 4096 := by
              rw [List.length_take]
              omega
            exact Nat.mul_le_mul l5 l4
          omega
        refine ⟨rfl, ?_⟩
        refine ⟨_, rfl, z, rfl, ?_⟩
        refine lc2_in walk_str (fun b H4 => Same H' H4 ∧ H4 D = some (.lst (((((levW (cs z) i).take a).flatMap fun w => (cs z).map fun c => w ++ [c]) ++ ((cs z).take b).map fun c => w ++ [c]).map strV))) ⟨s2, by rw [List.take_zero, List.map_nil, List.append_nil]; exact hD⟩ (fun _ _ _ _ => trivial) ?_ ?_
        · rintro b y' H4 H5 hb ⟨s4, hD4⟩ ⟨rfl, c, hc, rfl⟩
          have hc' : (cs z)[b]? = some c := by
            show z.cps.toList[b]? = some c
            rw [Array.getElem?_toList]
            exact hc
          refine ⟨rfl, _, rfl, _, rfl, _, _, rfl, rfl, small_text ?_, _, hD4, ?_, (Same.refl H').grown nD s4 hD4, ?_⟩
          · show w.toArray.size + 1 ≤ 1000000
            have : w.toArray.size = w.length := List.size_toArray
            omega
          · rw [List.length_map]
            exact Nat.lt_of_le_of_lt (part b) (by decide)
          · rw [upd_same, List.take_add_one, hc']
            simp only [Option.toList, List.map_append, List.map_cons, List.map_nil, List.append_assoc]
            have e : (V.str ((⟨w.toArray⟩ : Str) ++ (⟨#[c]⟩ : Str))) = strV (w ++ [c]) := by
              refine congrArg V.str (cs_ext ?_)
              rw [cs_app, cs_mk, cs_mk, cs_mk]
            rw [e]
        · rintro H4 ⟨s4, hD4⟩
          have e : List.take z.cps.size (cs z) = cs z := List.take_of_length_le (Nat.le_of_eq (cs_len z))
          rw [e] at hD4
          refine ⟨s4, ?_⟩
          rw [hD4, ta]
      · rintro H2 ⟨s2, hD⟩
        have e : (levW (cs z) i).take ((levW (cs z) i).map strV).length = levW (cs z) i := List.take_of_length_le (by rw [List.length_map]; exact Nat.le_refl _)
        rw [e] at hD
        have hD' : H2 D = some (.lst ((levW (cs z) (i + 1)).map strV)) := hD
        have hW2 := s2 _ _ hW
        refine ⟨_, rfl, .inl ⟨rfl, _, .inl (.inl hW2)⟩, _, rfl, D, _, rfl, .inl (.inl (.inl hD')), fun t nt => ?_⟩
        have k3 := same_new (o := .lst ((levW (cs z) (i + 1)).map strV)) nt
        have hW3 := k3 _ _ hW2
        have hD3 := k3 _ _ hD'
        refine ⟨W, t, _, _, rfl, rfl, hW3, upd_same, ?_, ?_⟩
        · rw [List.length_map, List.length_map]
          have a1 := allW_small l4 (k := i) (by omega)
          have a2 := levW_small l4 i6
          have a3 : 4096 * (i + 1) ≤ 4096 * 6 := Nat.mul_le_mul_left _ i6
          exact small_text (by omega)
        · refine ⟨D, _, rfl, ?_, ?_, dW, ?_⟩
          · rw [upd_same, ← List.map_append]
            rfl
          · rw [upd_ne dW]
            exact hD3
          · exact (Same.refl H1).grown nW ((sm.trans s2).trans k3) hW3
    · rintro σ H' ⟨l, y, rfl, hW, hl, ne, sm⟩
      exact ⟨_, rfl, q W H' (s1.trans sm) (s1.free nW) hW⟩

/-- the items of a list of lists one behind the other, all of one length -/
theorem flat_at {α β : Type} {f : α → List β} {K : Nat} : ∀ (L : List α), (∀ w ∈ L, (f w).length = K) → ∀ (i : Nat) (u : β), (L.flatMap f)[i]? = some u → ∃ (q r : Nat) (w : α), L[q]? = some w ∧ (f w)[r]? = some u ∧ i = q * K + r
  | [], _, i, u, h => by simp at h
  | w :: L, hl, i, u, h => by
    rw [List.flatMap_cons] at h
    have lw := hl w List.mem_cons_self
    by_cases g : i < K
    · rw [List.getElem?_append_left (by rw [lw]; exact g)] at h
      exact ⟨0, i, w, rfl, h, by omega⟩
    · rw [List.getElem?_append_right (by rw [lw]; omega), lw] at h
      obtain ⟨q, r, v, h1, h2, h3⟩ := flat_at L (fun v m => hl v (List.mem_cons_of_mem _ m)) (i - K) u h
      refine ⟨q + 1, r, v, h1, h2, ?_⟩
      rw [Nat.add_mul, Nat.one_mul]
      omega
theorem levW_num {z : Str} (nd : (cs z).Nodup) : ∀ (m i : Nat) (w : List Nat), (levW (cs z) m)[i]? = some w → num z w = geo (cs z).length m + i ∧ ∀ c ∈ w, c ∈ cs z
  | 0, i, w, h => by
    have h' : ([[]] : List (List Nat))[i]? = some w := h
    cases i with
    | zero =>
      cases h'
      exact ⟨rfl, fun c m => absurd m List.not_mem_nil⟩
    | succ i => simp at h'
  | m + 1, i, w, h => by
    obtain ⟨q, r, v, h1, h2, h3⟩ := flat_at (K := (cs z).length) (levW (cs z) m) (fun v _ => List.length_map ..) i w h
    obtain ⟨ih, ov⟩ := levW_num nd m q v h1
    rw [List.getElem?_map] at h2
    cases er : (cs z)[r]? with
    | none =>
      rw [er] at h2
      cases h2
    | some c =>
      rw [er] at h2
      have ew : v ++ [c] = w := Option.some.inj h2
      subst ew
      refine ⟨?_, fun d hd => ?_⟩
      · rw [num_snoc, ih, pl_at nd er, geo_up, h3, Nat.add_mul, Nat.mul_comm (cs z).length]
        omega
      · rcases List.mem_append.mp hd with k | k
        · exact ov d k
        · rw [List.mem_singleton.mp k]
          exact List.mem_of_getElem? er
theorem allW_len (l : List Nat) : ∀ m, (allW l m).length = geo l.length (m + 1)
  | 0 => by
    show 1 = 0 + l.length ^ 0
    rfl
  | m + 1 => by
    show (allW l m ++ levW l (m + 1)).length = geo l.length (m + 1) + l.length ^ (m + 1)
    rw [List.length_append, allW_len l m, levW_len]
theorem allW_num {z : Str} (nd : (cs z).Nodup) : ∀ (m i : Nat) (w : List Nat), (allW (cs z) m)[i]? = some w → num z w = i ∧ ∀ c ∈ w, c ∈ cs z
  | 0, i, w, h => by
    have := levW_num nd 0 i w h
    refine ⟨?_, this.2⟩
    rw [this.1]
    show 0 + i = i
    omega
  | m + 1, i, w, h => by
    have h' : (allW (cs z) m ++ levW (cs z) (m + 1))[i]? = some w := h
    by_cases g : i < (allW (cs z) m).length
    · rw [List.getElem?_append_left g] at h'
      exact allW_num nd m i w h'
    · rw [List.getElem?_append_right (by omega)] at h'
      have := levW_num nd (m + 1) _ w h'
      refine ⟨?_, this.2⟩
      rw [this.1, allW_len]
      rw [allW_len] at g
      omega
theorem allW_first (l : List Nat) : ∀ m, (allW l m)[0]? = some []
  | 0 => rfl
  | m + 1 => by
    show (allW l m ++ levW l (m + 1))[0]? = some []
    have h := allW_first l m
    rw [List.getElem?_append_left (List.getElem?_eq_some_iff.mp h).1]
    exact h
theorem num_last {z : Str} {c : Nat} (h : pl z c + 1 = (cs z).length) : ∀ n, num z (List.replicate n c) + 1 = geo (cs z).length (n + 1)
  | 0 => rfl
  | n + 1 => by
    have ih := num_last h n
    rw [List.replicate_succ, num_cons, h, List.length_replicate]
    have e : geo (cs z).length (n + 1 + 1) = geo (cs z).length (n + 1) + (cs z).length ^ (n + 1) := rfl
    rw [e, ← ih, Nat.pow_succ, Nat.mul_comm]
    omega
theorem cs_rep (c n : Nat) : cs (Txt.mul ⟨#[c]⟩ ((n : Nat) : Int)) = List.replicate n c := by
  rw [cs_mul, Int.toNat_natCast, cs_one]
  induction n with
  | zero => rfl
  | succ i ih => rw [List.replicate_succ, List.flatten_cons, ih]; rfl
def wordsOf (l : List Nat) (n : Nat) : List Str := (allW l n).map fun w => ⟨w.toArray⟩
theorem words_map (l : List Nat) (n : Nat) : (allW l n).map strV = (wordsOf l n).map V.str := by
  unfold wordsOf
  rw [List.map_map]
  rfl
theorem words_at {z : Str} (nd : (cs z).Nodup) {n i : Nat} {x : Str} (h : (wordsOf (cs z) n)[i]? = some x) : num z (cs x) = i ∧ Over z x ∧ x.length ≤ n := by
  unfold wordsOf at h
  rw [List.getElem?_map] at h
  cases ew : (allW (cs z) n)[i]? with
  | none =>
    rw [ew] at h
    cases h
  | some w =>
    rw [ew] at h
    have ex : (⟨w.toArray⟩ : Str) = x := Option.some.inj h
    subst ex
    have k := allW_num nd n i w ew
    refine ⟨by rw [cs_mk]; exact k.1, fun c m => k.2 c (by rw [cs_mk] at m; exact m), ?_⟩
    rw [← cs_len, cs_mk]
    exact allW_word _ n w (List.mem_of_getElem? ew)
def sp_all_right [Tabl] (_ : PySem.W.Frag) : Sp := fun vs H Q _ => ∃ (z : Str) (n : Nat), vs = [.str z, .int (n : Int)] ∧ IsAlpha z ∧ n ≤ 6 ∧ Good H ∧ ∀ H' : Hp, Same H H' → Q (.bl true) H'
theorem ok_all_right (T : Txt K mg base) : FnOk P w K mg base CX0 (10 + 1) T.f_all_right T.fd_all_right ["letters", "limit"] (sp_all_right K) := by
  refine T.F_all_right.ok sc_all_right (fun vs H Q E h => ?_) (fun cdv A outer s H vs Q E hr h => ?_)
  · obtain ⟨z, n, rfl, _⟩ := h
    rfl
  · obtain ⟨z, n, rfl, az, n6, good, q⟩ := h
    refine ⟨_, (pss_cons (ps_set (i := 2) sc_all_right.nd rfl (.inl rfl) (pe_call (ok_all_words T) (hr.mono (by first | decide | exact Nat.le_refl _)) (by rfl) T.g_all_words T.F_all_words.kp T.b_all_words .nil passL (pa_cons (pv 0) (pa_cons (pv 1) pa_nil))))
      (pss_cons (ps_if (PW.pt (pw_or (pt_not (pt_val (pe_call (ok_list_of_words T) (hr.mono (by first | decide | exact Nat.le_refl _)) (by rfl) T.g_list_of_words T.F_list_of_words.kp T.b_list_of_words .nil pass0 (pa_cons (pv 2) pa_nil)))) (pw_or (pt_not (pt_truth (pv 2) (by intro _; rfl))) (pw_or1 (pt_cmpR op_ne (pe_ix ix_list (pv 2) pe_int (fun _ _ => rfl)) pe_str (nomark _)))))) (pss_one (ps_ret pe_bl)) pss_nil)
      (pss_cons (ps_for PassesOwn.never rfl (pi_range1 (by rfl) T.z_range (pa_cons (pe_op op_sub (pe_callB call_len_seq (by rfl) T.z_len PySem.boot_len (pa_cons (pv 2) pa_nil)) pe_int) pa_nil)) (pg_name (i := 3) sc_all_right.nd rfl (.inl rfl)) (pss_one (ps_if (pt_cmpR op_ne (pe_ix ix_list (pv 2) (pe_op op_add (pv 3) pe_int) (fun _ _ => rfl)) (pe_call (ok_next_word T) (hr.mono (by first | decide | exact Nat.le_refl _)) (by rfl) T.g_next_word T.F_next_word.kp T.b_next_word .nil pass0 (pa_cons (pv 0) (pa_cons (pe_ix ix_list (pv 2) (pv 3) (fun _ _ => rfl)) pa_nil))) (nomark _)) (pss_one (ps_ret pe_bl)) pss_nil)))
      (pss_cons (ps_if (pt_cmpR op_ne (pe_ix ix_list (pv 2) (pe_un un_neg pe_int) (fun _ _ => rfl)) (pe_op op_rep_str (pe_ix ix_str (pv 0) (pe_un un_neg pe_int) (fun _ _ => rfl)) (pv 1)) (nomark _)) (pss_one (ps_ret pe_bl)) pss_nil)
      (pss_cons (ps_set (i := 4) sc_all_right.nd rfl (.inl rfl) (pe_callTy call_list_of (by rfl) T.z_list (by decide +kernel) (pa_cons (pv 2) pa_nil)))
      (pss_cons (ps_expr (pe_call (ok_wreck T) (hr.mono (by first | decide | exact Nat.le_refl _)) (by rfl) T.g_wreck T.F_wreck.kp T.b_wreck .nil pass0 (pa_cons (pv 2) pa_nil)))
      (pss_one (ps_ret (pe_call (ok_same T) (hr.mono (by first | decide | exact Nat.le_refl _)) (by rfl) T.g_same T.F_same.kp T.b_same .nil pass0 (pa_cons (pe_call (ok_all_words T) (hr.mono (by first | decide | exact Nat.le_refl _)) (by rfl) T.g_all_words T.F_all_words.kp T.b_all_words .nil passL (pa_cons (pv 0) (pa_cons (pv 1) pa_nil))) (pa_cons (pv 4) pa_nil))))))))))), ?_⟩
    have al : AlphaV (.str z) := ⟨z, rfl, az⟩
    have nd := az.nodup
    have l4 : (cs z).length ≤ 4 := by
      rw [cs_len]
      exact az.len4
    have l1 : 1 ≤ (cs z).length := by
      rw [cs_len]
      exact az.len1
    have inr : inR (.int (n : Int)) 0 6 = true := by
      show (decide ((0 : Int) ≤ n) && decide ((n : Int) ≤ 6)) = true
      rw [decide_eq_true (by omega), decide_eq_true (by omega)]
      rfl
    have lenW : (wordsOf (cs z) n).length ≤ 100000 := by
      unfold wordsOf
      rw [List.length_map]
      have a1 := allW_small l4 (k := n) n6
      have a3 : 4096 * (n + 1) ≤ 4096 * 7 := Nat.mul_le_mul_left _ (by omega)
      omega
    have lenG : (wordsOf (cs z) n).length = geo (cs z).length (n + 1) := by
      unfold wordsOf
      rw [List.length_map, allW_len]
    have lm : ((wordsOf (cs z) n).map V.str).length = (wordsOf (cs z) n).length := List.length_map ..
    have pos : 0 < (wordsOf (cs z) n).length := by
      rw [lenG]
      exact Nat.lt_of_lt_of_le (by show 0 < geo (cs z).length 1; show 0 < 0 + 1; decide) (geo_mono _ (Nat.succ_le_succ (Nat.zero_le n)))
    have atR : ∀ (i : Nat) (h : i < (wordsOf (cs z) n).length), ((wordsOf (cs z) n).map V.str)[i]? = some (.str (wordsOf (cs z) n)[i]) := fun i h => by
      rw [List.getElem?_map, List.getElem?_eq_getElem h]
      rfl
    have first : (wordsOf (cs z) n)[0]? = some (Str.ofString "") := by
      unfold wordsOf
      rw [List.getElem?_map, allW_first]
      exact congrArg some (cs_ext (by rw [cs_empty, cs_mk]))
    refine ⟨_, rfl, _, rfl, .str z, .int (n : Int), rfl, shal_str az.small, shal_int, good, fun n => (n al).elim, fun _ e => (by rw [inr] at e; cases e), fun z' n' e1 _ e2 _ r H1 s1 nr hr1 => ?_⟩
    cases e1
    have e2' := Int.ofNat_inj.mp (V.int.inj e2)
    subst e2'
    rw [words_map] at hr1
    have k1 : Same H H1 := s1
    refine ⟨_, rfl, r, _, rfl, hr1, fun H2 s2 => ⟨_, rfl, iteN rfl ?_⟩⟩
    have hr2 := s2 _ _ hr1
    have em : (!((wordsOf (cs z) n).map V.str).isEmpty) = true := by
      cases e : wordsOf (cs z) n with
      | nil =>
        rw [e] at pos
        cases pos
      | cons _ _ => rfl
    refine ⟨_, rfl, true, .inl ⟨_, .inl (.inl hr2), em.symm⟩, iteN rfl ?_⟩
    refine ⟨_, rfl, _, _, _, _, rfl, rfl, .inl (.inl hr2), atI_nat (j := 0) (by rw [List.getElem?_map, first]; rfl), rfl, _, rfl, iteN (by rw [decide_eq_true rfl]; rfl) ?_⟩
    -- the next word each
    refine ⟨_, rfl, _, _, rfl, .inl (.inl (.inl hr2)), _, _, rfl, rfl, _, rfl, by rw [lm]; omega, by rw [lm]; omega, ?_⟩
    refine for_range (lo := 0) (n := ((((wordsOf (cs z) n).map V.str).length : Int) - 1).toNat) (fun i σ H' => (∃ y : Option V, σ = [some (.str z), some (.int (n : Int)), some (.ref r), y, none]) ∧ H' = H2) ⟨⟨none, rfl⟩, rfl⟩ ?_ ?_
    · rintro i σ H' hi ⟨⟨y, rfl⟩, rfl⟩
      have hi1 : i + 1 < (wordsOf (cs z) n).length := by
        have : i < ((((wordsOf (cs z) n).map V.str).length : Int) - 1).toNat := hi
        rw [lm] at this
        omega
      have w1 := words_at nd (List.getElem?_eq_getElem (show i < (wordsOf (cs z) n).length by omega))
      have w2 := words_at nd (List.getElem?_eq_getElem hi1)
      refine ⟨_, rfl, _, rfl, _, _, rfl, rfl, _, _, _, _, rfl, rfl, .inl (.inl hr2), (by rw [show (0 : Int) + (i : Int) + 1 = ((i + 1 : Nat) : Int) by omega]; exact atI_nat (atR (i + 1) hi1)), ?_⟩
      refine ⟨_, rfl, _, rfl, _, rfl, _, _, _, _, rfl, rfl, .inl (.inl hr2), (by rw [Int.zero_add]; exact atI_nat (atR i (by omega))), z, _, rfl, az, w1.2.1, by omega, fun y oy ly ny => ⟨rfl, _, rfl, iteN ?_ ⟨⟨_, rfl⟩, rfl⟩⟩⟩
      have e : (wordsOf (cs z) n)[i + 1] = y := cs_ext (num_inj _ _ _ rfl w2.2.1 oy (by rw [w2.1, ny, w1.1]))
      rw [e, decide_eq_true rfl]
      rfl
    rintro σ H2' ⟨⟨y, rfl⟩, rfl⟩
    -- the last one
    have ll : (wordsOf (cs z) n).length - 1 < (wordsOf (cs z) n).length := by omega
    have lc : (cs z).length - 1 < (cs z).length := by omega
    have wl := words_at nd (List.getElem?_eq_getElem ll)
    refine ⟨_, rfl, _, rfl, _, _, _, _, rfl, rfl, .inl (.inl hr2), atI_neg1 (by rw [lm]; exact atR _ ll), ?_⟩
    refine ⟨_, rfl, _, rfl, z, _, (cs z)[(cs z).length - 1], rfl, rfl, small_text az.small, atI_neg1 (List.getElem?_eq_getElem lc), _, rfl, _, _, rfl, rfl, by show 1 ≤ 16; decide, by omega, by omega, rfl, _, rfl, iteN ?_ ?_⟩
    · have er := cs_rep (cs z)[(cs z).length - 1] n
      have e : (wordsOf (cs z) n)[(wordsOf (cs z) n).length - 1] = Txt.mul ⟨#[(cs z)[(cs z).length - 1]]⟩ ((n : Nat) : Int) := by
        refine cs_ext (num_inj _ _ _ rfl wl.2.1 ?_ ?_)
        · intro c m
          rw [er] at m
          rw [(List.mem_replicate.mp m).2]
          exact List.getElem_mem _
        · have pc : pl z (cs z)[(cs z).length - 1] = (cs z).length - 1 := pl_at nd (List.getElem?_eq_getElem lc)
          have nl := num_last (z := z) (c := (cs z)[(cs z).length - 1]) (by rw [pc]; omega) n
          rw [er, wl.1, lenG]
          omega
      rw [e, decide_eq_true rfl]
      rfl
    -- told
    refine ⟨_, rfl, r, _, rfl, .inl (.inl (.inl hr2)), fun tl nt => ?_⟩
    have k3 := same_new (o := .lst ((wordsOf (cs z) n).map V.str)) nt
    have hr3 := k3 _ _ hr2
    have ht3 : (upd H2' tl (.lst ((wordsOf (cs z) n).map V.str))) tl = some (.lst ((wordsOf (cs z) n).map V.str)) := upd_same
    have tr : tl ≠ r := fun e => by rw [e, hr2] at nt; cases nt
    generalize upd H2' tl (.lst ((wordsOf (cs z) n).map V.str)) = H3 at k3 hr3 ht3 ⊢
    refine ⟨_, rfl, r, _, rfl, hr3, by omega, fun H4 H5 s4 hr4 e5 => ?_⟩
    have sm5 : Same H H5 := by
      rw [e5]
      exact Same.grown (.refl H) nr (((k1.trans s2).trans k3).trans s4) hr4
    have ht5 : H5 tl = some (.lst ((wordsOf (cs z) n).map V.str)) := by rw [e5, upd_ne tr]; exact s4 _ _ ht3
    refine ⟨_, rfl, _, rfl, .str z, .int (n : Int), rfl, shal_str az.small, shal_int, sm5.good good, fun n => (n al).elim, fun _ e => (by rw [inr] at e; cases e), fun z' n' e1 _ e2 _ r2 H6 s6 nr2 hr6 => ?_⟩
    cases e1
    have e2' := Int.ofNat_inj.mp (V.int.inj e2)
    subst e2'
    rw [words_map] at hr6
    exact ⟨_, rfl, _, _, rfl, same_strs hr6 (s6 _ _ ht5) (by omega), q _ (sm5.trans s6)⟩

/-- any number that is not negative -/
def sp_mix (_ : PySem.W.Frag) : Sp := fun vs H Q _ => ∃ n t : Int, vs = [.int n, .int t] ∧ ∀ r : Int, 0 ≤ r → Q (.int r) H
theorem ok_mix (T : Txt K mg base) : FnOk P w K mg base CX0 (0 + 1) T.f_mix T.fd_mix ["number", "tick"] (sp_mix K) := by
  refine T.F_mix.ok sc_mix (fun vs H Q E h => ?_) (fun cdv A outer s H vs Q E hr h => ?_)
  · obtain ⟨n, t, rfl, _⟩ := h
    rfl
  · obtain ⟨n, t, rfl, q⟩ := h
    refine ⟨_, (pss_cons (ps_set (i := 2) sc_mix.nd rfl (.inl rfl) (pe_op op_mod (pe_callTy call_int1 (by rfl) T.z_int (by decide +kernel) (pa_cons (pe_op op_add (pe_op op_add (pe_op op_mul (pe_op op_mod (pe_callTy call_int1 (by rfl) T.z_int (by decide +kernel) (pa_cons (pv 0) pa_nil)) pe_int) pe_int) (pe_op op_mul (pv 1) pe_int)) pe_int) pa_nil)) pe_int))
      (pss_cons (ps_set (i := 3) sc_mix.nd rfl (.inl rfl) (pe_op op_mod (pe_callTy call_int1 (by rfl) T.z_int (by decide +kernel) (pa_cons (pe_op op_add (pe_op op_add (pe_op op_mul (pv 2) (pv 2)) (pe_op op_fdiv (pv 2) pe_int)) (pe_op op_mul (pv 1) pe_int)) pa_nil)) pe_int))
      (pss_one (ps_ret (pe_op op_mod (pe_callTy call_int1 (by rfl) T.z_int (by decide +kernel) (pa_cons (pe_op op_add (pe_op op_add (pe_op op_mul (pv 3) (pv 3)) (pe_op op_fdiv (pv 3) pe_int)) (pv 2)) pa_nil)) pe_int))))), ?_⟩
    have hm : (0 : Int) < 2147483647 := by decide
    have hk : (0 : Int) < 1000000007 := by decide
    have hj : (0 : Int) < 2147483629 := by decide
    have b1 : 0 ≤ (n % 2147483647 * 48271 + t * 69621 + 7919) % 2147483647 := Int.emod_nonneg _ (by decide)
    have b2 : (n % 2147483647 * 48271 + t * 69621 + 7919) % 2147483647 < 2147483647 := Int.emod_lt_of_pos _ hm
    have w1 : -(2 ^ 64 : Int) < (n % 2147483647 * 48271 + t * 69621 + 7919) % 2147483647 ∧ (n % 2147483647 * 48271 + t * 69621 + 7919) % 2147483647 < 2 ^ 64 := ⟨by omega, by omega⟩
    refine ⟨.int n, rfl, .inl ⟨_, rfl, _, _, rfl, rfl, hm, _, _, rfl, rfl, .inr ⟨by decide, by decide⟩, .int t, rfl, _, _, rfl, rfl, .inr ⟨by decide, by decide⟩, _, _, rfl, rfl, _, _, rfl, rfl, .inl ⟨_, rfl, _, _, rfl, rfl, hm, ?_⟩⟩⟩
    have x1 : ∃ one, one = (n % 2147483647 * 48271 + t * 69621 + 7919) % 2147483647 := ⟨_, rfl⟩
    obtain ⟨one, e1⟩ := x1
    rw [← e1] at w1
    have b3 : 0 ≤ (one * one + one / 127 + t * 3571) % 1000000007 := Int.emod_nonneg _ (by decide)
    have b4 : (one * one + one / 127 + t * 3571) % 1000000007 < 1000000007 := Int.emod_lt_of_pos _ hk
    have w2 : -(2 ^ 64 : Int) < (one * one + one / 127 + t * 3571) % 1000000007 ∧ (one * one + one / 127 + t * 3571) % 1000000007 < 2 ^ 64 := ⟨by omega, by omega⟩
    subst e1
    refine ⟨_, rfl, _, rfl, _, _, rfl, rfl, .inl w1, _, rfl, _, _, rfl, rfl, ⟨by decide, by decide⟩, _, _, rfl, rfl, .int t, rfl, _, _, rfl, rfl, .inr ⟨by decide, by decide⟩, _, _, rfl, rfl, .inl ⟨_, rfl, _, _, rfl, rfl, hk, ?_⟩⟩
    exact ⟨_, rfl, _, rfl, _, _, rfl, rfl, .inl w2, _, rfl, _, _, rfl, rfl, ⟨by decide, by decide⟩, _, _, rfl, rfl, _, rfl, _, _, rfl, rfl, .inl ⟨_, rfl, _, _, rfl, rfl, hj, q _ (Int.emod_nonneg _ (by decide))⟩⟩

/-- a number d from 0 on, below many, or 0; the store moves on, all else stands -/
def sp_take (_ : PySem.W.Frag) : Sp := fun vs H Q _ => ∃ (a ca : Addr) (many : Int), vs = [.ref a, .int many] ∧ Sto H a ca ∧ many < 1073741824 ∧
  ∀ (d : Int) (H' : Hp), 0 ≤ d → (d < many ∨ d = 0) → But a H H' → Sto H' a ca → Q (.int d) H'
theorem ok_take (T : Txt K mg base) : FnOk P w K mg base CX0 (1 + 1) T.f_take T.fd_take ["store", "many"] (sp_take K) := by
  refine T.F_take.ok sc_take (fun vs H Q E h => ?_) (fun cdv A outer s H vs Q E hr h => ?_)
  · obtain ⟨a, ca, m, rfl, _⟩ := h
    rfl
  · obtain ⟨a, ca, m, rfl, S, hm, q⟩ := h
    refine ⟨_, (pss_cons (ps_set (i := 1) sc_take.nd rfl (.inl rfl) (pe_callB (call_max2 rfl) (by rfl) T.z_max (by decide +kernel) (pa_cons pe_int (pa_cons (pv 1) pa_nil))))
      (pss_cons (ps_asg (pe_op op_add (pe_ix ix_list (pv 0) pe_int (fun _ _ => rfl)) pe_int) (pg_sub (pv 0) pe_int set_list))
      (pss_cons (ps_set (i := 2) sc_take.nd rfl (.inl rfl) (pe_ix ix_list (pv 0) pe_int (fun _ _ => rfl)))
      (pss_cons (ps_if (PW.pt (pw_and (pt_cmpR op_lt (pe_ix ix_list (pv 0) pe_int (fun _ _ => rfl)) pe_int (nomark _)) (pw_and1 (pt_cmpR op_lt (pe_ix ix_list (pv 0) pe_int (fun _ _ => rfl)) (pe_callB call_len_seq (by rfl) T.z_len PySem.boot_len (pa_cons (pv 2) pa_nil)) (nomark _))))) (pss_cons (ps_set (i := 3) sc_take.nd rfl (.inl rfl) (pe_callTy call_int1 (by rfl) T.z_int (by decide +kernel) (pa_cons (pe_ix ix_list (pv 2) (pe_ix ix_list (pv 0) pe_int (fun _ _ => rfl)) (fun _ _ => rfl)) pa_nil)))
      (pss_cons (ps_asg (pe_op op_add (pe_ix ix_list (pv 0) pe_int (fun _ _ => rfl)) pe_int) (pg_sub (pv 0) pe_int set_list))
      (pss_cons (ps_if (pt_cmpR op_lt (pv 3) (pe_op op_pow pe_int pe_int) (nomark _)) (pss_one (ps_ret (pe_op op_mod (pe_callTy call_int1 (by rfl) T.z_int (by decide +kernel) (pa_cons (pe_call (ok_mix T) (hr.mono (by first | decide | exact Nat.le_refl _)) (by rfl) T.g_mix T.F_mix.kp T.b_mix .nil pass0 (pa_cons (pv 3) (pa_cons (pe_ix ix_list (pv 0) pe_int (fun _ _ => rfl)) pa_nil))) pa_nil)) (pv 1)))) pss_nil)
      (pss_one (ps_asg (pe_callTy call_int1 (by rfl) T.z_int (by decide +kernel) (pa_cons (pv 3) pa_nil)) (pg_sub (pv 0) pe_int set_list)))))) pss_nil)
      (pss_cons (ps_if (pt_cmpR op_lt (pe_ix ix_list (pv 0) pe_int (fun _ _ => rfl)) pe_int (nomark _)) (pss_one (ps_ret (pe_op op_mod (pe_callTy call_int1 (by rfl) T.z_int (by decide +kernel) (pa_cons (pe_call (ok_mix T) (hr.mono (by first | decide | exact Nat.le_refl _)) (by rfl) T.g_mix T.F_mix.kp T.b_mix .nil pass0 (pa_cons (pe_ix ix_list (pv 0) pe_int (fun _ _ => rfl)) (pa_cons (pe_ix ix_list (pv 0) pe_int (fun _ _ => rfl)) pa_nil))) pa_nil)) (pv 1)))) pss_nil)
      (pss_cons (ps_set (i := 4) sc_take.nd rfl (.inl rfl) (pe_op op_mod (pe_callTy call_int1 (by rfl) T.z_int (by decide +kernel) (pa_cons (pe_ix ix_list (pv 0) pe_int (fun _ _ => rfl)) pa_nil)) (pv 1)))
      (pss_cons (ps_asg (pe_op op_fdiv (pe_callTy call_int1 (by rfl) T.z_int (by decide +kernel) (pa_cons (pe_ix ix_list (pv 0) pe_int (fun _ _ => rfl)) pa_nil)) (pv 1)) (pg_sub (pv 0) pe_int set_list))
      (pss_one (ps_ret (pv 4)))))))))), ?_⟩
    obtain ⟨ns, i, b, t, sd, h1, h2, h3, h4⟩ := S
    -- many = max(1, many)
    refine ⟨.int m, rfl, _, _, rfl, ?_⟩
    have hM : ∃ M : Int, (if m > 1 then m else 1) = M ∧ 1 ≤ M ∧ M < 1073741824 ∧ ∀ d, d < M → 0 ≤ d → (d < m ∨ d = 0) := by
      by_cases g : m > 1
      · exact ⟨m, by rw [if_pos g], by omega, hm, fun d z _ => .inl z⟩
      · exact ⟨1, by rw [if_neg g], by omega, by decide, fun d z1 z2 => .inr (by omega)⟩
    obtain ⟨M, eM, hM1, hM2, hMd⟩ := hM
    rw [eM]
    have hM0 : 0 < M := by omega
    -- store[3] = store[3] + 1
    refine ⟨.ref a, rfl, _, _, _, _, rfl, rfl, .inl (.inl h1), rfl, _, _, rfl, rfl, .ref a, rfl, a, _, 3, 3, rfl, rfl, h1, rfl, ?_⟩
    -- cells = store[0]
    have h1' : (upd H a (.lst [.ref ca, .int i, .int b, .int (t + 1), .int sd])) a = some (.lst [.ref ca, .int i, .int b, .int (t + 1), .int sd]) := upd_same
    have h2' : (upd H a (.lst [.ref ca, .int i, .int b, .int (t + 1), .int sd])) ca = some (.lst (ns.map V.int)) := by
      rw [upd_ne h4]
      exact h2
    have hB : But a H (upd H a (.lst [.ref ca, .int i, .int b, .int (t + 1), .int sd])) := But.put h1
    have tail : ∀ (Ht : Hp) (bt : Int) (it tt : Int), Ht a = some (.lst [.ref ca, .int it, .int bt, .int tt, .int sd]) → Ht ca = some (.lst (ns.map V.int)) → 0 ≤ it → But a H Ht →
      ∀ r : Int, ∀ (d : Int) (H' : Hp), d = r % M → (H' = Ht ∨ ∃ b' : Int, H' = upd Ht a (.lst [.ref ca, .int it, .int b', .int tt, .int sd])) → Q (.int d) H' := by
      intro Ht bt it tt e1 e2 e3 eB r d H' ed eH
      subst ed
      have d0 : 0 ≤ r % M := Int.emod_nonneg _ (by omega)
      have d1 : r % M < M := Int.emod_lt_of_pos _ hM0
      rcases eH with rfl | ⟨b', rfl⟩
      · exact q _ _ d0 (hMd _ d1 d0) eB ⟨ns, it, bt, tt, sd, e1, e2, e3, h4⟩
      · refine q _ _ d0 (hMd _ d1 d0) (eB.trans (But.put e1)) ⟨ns, it, b', tt, sd, upd_same, ?_, e3, h4⟩
        rw [upd_ne h4]
        exact e2
    -- the tests
    refine ⟨.ref a, rfl, _, _, _, _, rfl, rfl, .inl (.inl h1'), rfl, .ref a, rfl, _, _, _, _, rfl, rfl, .inl (.inl h1'), rfl, _, _, rfl, rfl, _, rfl, ite2 (fun g1 => ?_) (fun g1 => ?_)⟩
    · refine ⟨.ref a, rfl, _, _, _, _, rfl, rfl, .inl (.inl h1'), rfl, .ref ca, rfl, _, _, rfl, .inl (.inl (.inl h2')), _, _, rfl, rfl, _, rfl, ite2 (fun g2 => ?_) (fun g2 => ?_)⟩
      · obtain ⟨n, hn⟩ := ints_at h3 (of_decide_eq_true g2)
        -- cell = int(cells[store[1]])
        refine ⟨.ref ca, rfl, .ref a, rfl, _, _, _, _, rfl, rfl, .inl (.inl h1'), rfl, _, _, _, _, rfl, rfl, .inl (.inl h2'), hn, .inl ⟨_, rfl, ?_⟩⟩
        -- store[1] = store[1] + 1
        refine ⟨.ref a, rfl, _, _, _, _, rfl, rfl, .inl (.inl h1'), rfl, _, _, rfl, rfl, .ref a, rfl, a, _, 1, 1, rfl, rfl, h1', rfl, ?_⟩
        have k1 : (upd (upd H a (.lst [.ref ca, .int i, .int b, .int (t + 1), .int sd])) a (.lst [.ref ca, .int (i + 1), .int b, .int (t + 1), .int sd])) a = some (.lst [.ref ca, .int (i + 1), .int b, .int (t + 1), .int sd]) := upd_same
        have k2 : (upd (upd H a (.lst [.ref ca, .int i, .int b, .int (t + 1), .int sd])) a (.lst [.ref ca, .int (i + 1), .int b, .int (t + 1), .int sd])) ca = some (.lst (ns.map V.int)) := by
          rw [upd_ne h4]
          exact h2'
        have kB := hB.trans (But.put (a := a) (H := (upd H a (.lst [.ref ca, .int i, .int b, .int (t + 1), .int sd]))) (o := (.lst [.ref ca, .int (i + 1), .int b, .int (t + 1), .int sd])) h1')
        have k3 : 0 ≤ i + 1 := by omega
        -- if cell < 10 ** 18
        refine ⟨_, rfl, _, _, rfl, rfl, ⟨by decide, by decide, by decide⟩, _, _, rfl, rfl, _, rfl, ite2 (fun g3 => ?_) (fun g3 => ?_)⟩
        · exact ⟨_, rfl, .ref a, rfl, _, _, _, _, rfl, rfl, .inl (.inl k1), rfl, _, _, rfl, fun r hr0 => .inl ⟨_, rfl, _, rfl, _, _, rfl, rfl, hM0, tail _ _ _ _ k1 k2 k3 kB r _ _ rfl (.inl rfl)⟩⟩
        · -- store[2] = int(cell)
          refine ⟨_, rfl, .inl ⟨_, rfl, .ref a, rfl, a, _, 2, 2, rfl, rfl, k1, rfl, ?_⟩⟩
          have m1 : (upd (upd (upd H a (.lst [.ref ca, .int i, .int b, .int (t + 1), .int sd])) a (.lst [.ref ca, .int (i + 1), .int b, .int (t + 1), .int sd])) a (.lst [.ref ca, .int (i + 1), .int n, .int (t + 1), .int sd])) a = some (.lst [.ref ca, .int (i + 1), .int n, .int (t + 1), .int sd]) := upd_same
          have m2 : (upd (upd (upd H a (.lst [.ref ca, .int i, .int b, .int (t + 1), .int sd])) a (.lst [.ref ca, .int (i + 1), .int b, .int (t + 1), .int sd])) a (.lst [.ref ca, .int (i + 1), .int n, .int (t + 1), .int sd])) ca = some (.lst (ns.map V.int)) := by
            rw [upd_ne h4]
            exact k2
          have mB := kB.trans (But.put (a := a) (H := (upd (upd H a (.lst [.ref ca, .int i, .int b, .int (t + 1), .int sd])) a (.lst [.ref ca, .int (i + 1), .int b, .int (t + 1), .int sd]))) (o := (.lst [.ref ca, .int (i + 1), .int n, .int (t + 1), .int sd])) k1)
          refine ⟨.ref a, rfl, _, _, _, _, rfl, rfl, .inl (.inl m1), rfl, _, _, rfl, rfl, _, rfl, ite2 (fun g4 => ?_) (fun g4 => ?_)⟩
          · exact ⟨.ref a, rfl, _, _, _, _, rfl, rfl, .inl (.inl m1), rfl, .ref a, rfl, _, _, _, _, rfl, rfl, .inl (.inl m1), rfl, _, _, rfl, fun r hr0 => .inl ⟨_, rfl, _, rfl, _, _, rfl, rfl, hM0, tail _ _ _ _ m1 m2 k3 mB r _ _ rfl (.inl rfl)⟩⟩
          · exact ⟨.ref a, rfl, _, _, _, _, rfl, rfl, .inl (.inl m1), rfl, .inl ⟨_, rfl, _, rfl, _, _, rfl, rfl, hM0, .ref a, rfl, _, _, _, _, rfl, rfl, .inl (.inl m1), rfl, .inl ⟨_, rfl, _, rfl, _, _, rfl, rfl, ⟨hM0, hM2⟩, .ref a, rfl, a, _, 2, 2, rfl, rfl, m1, rfl, _, rfl, tail _ _ _ _ m1 m2 k3 mB _ _ _ rfl (.inr ⟨_, rfl⟩)⟩⟩⟩
      · refine ⟨.ref a, rfl, _, _, _, _, rfl, rfl, .inl (.inl h1'), rfl, _, _, rfl, rfl, _, rfl, ite2 (fun g4 => ?_) (fun g4 => ?_)⟩
        · exact ⟨.ref a, rfl, _, _, _, _, rfl, rfl, .inl (.inl h1'), rfl, .ref a, rfl, _, _, _, _, rfl, rfl, .inl (.inl h1'), rfl, _, _, rfl, fun r hr0 => .inl ⟨_, rfl, _, rfl, _, _, rfl, rfl, hM0, tail _ _ _ _ h1' h2' h3 hB r _ _ rfl (.inl rfl)⟩⟩
        · exact ⟨.ref a, rfl, _, _, _, _, rfl, rfl, .inl (.inl h1'), rfl, .inl ⟨_, rfl, _, rfl, _, _, rfl, rfl, hM0, .ref a, rfl, _, _, _, _, rfl, rfl, .inl (.inl h1'), rfl, .inl ⟨_, rfl, _, rfl, _, _, rfl, rfl, ⟨hM0, hM2⟩, .ref a, rfl, a, _, 2, 2, rfl, rfl, h1', rfl, _, rfl, tail _ _ _ _ h1' h2' h3 hB _ _ _ rfl (.inr ⟨_, rfl⟩)⟩⟩⟩
    · refine ⟨.ref a, rfl, _, _, _, _, rfl, rfl, .inl (.inl h1'), rfl, _, _, rfl, rfl, _, rfl, ite2 (fun g4 => ?_) (fun g4 => ?_)⟩
      · exact ⟨.ref a, rfl, _, _, _, _, rfl, rfl, .inl (.inl h1'), rfl, .ref a, rfl, _, _, _, _, rfl, rfl, .inl (.inl h1'), rfl, _, _, rfl, fun r hr0 => .inl ⟨_, rfl, _, rfl, _, _, rfl, rfl, hM0, tail _ _ _ _ h1' h2' h3 hB r _ _ rfl (.inl rfl)⟩⟩
      · exact ⟨.ref a, rfl, _, _, _, _, rfl, rfl, .inl (.inl h1'), rfl, .inl ⟨_, rfl, _, rfl, _, _, rfl, rfl, hM0, .ref a, rfl, _, _, _, _, rfl, rfl, .inl (.inl h1'), rfl, .inl ⟨_, rfl, _, rfl, _, _, rfl, rfl, ⟨hM0, hM2⟩, .ref a, rfl, a, _, 2, 2, rfl, rfl, h1', rfl, _, rfl, tail _ _ _ _ h1' h2' h3 hB _ _ _ rfl (.inr ⟨_, rfl⟩)⟩⟩⟩

def sp_between (_ : PySem.W.Frag) : Sp := fun vs H Q _ => ∃ (a ca : Addr) (lo hi : Int), vs = [.ref a, .int lo, .int hi] ∧ Sto H a ca ∧ hi - lo < 1000000000 ∧
  ∀ (r : Int) (H' : Hp), lo ≤ r → (r ≤ hi ∨ r = lo) → But a H H' → Sto H' a ca → Q (.int r) H'
theorem ok_between (T : Txt K mg base) : FnOk P w K mg base CX0 (2 + 1) T.f_between T.fd_between ["store", "low", "high"] (sp_between K) := by
  refine T.F_between.ok sc_between (fun vs H Q E h => ?_) (fun cdv A outer s H vs Q E hr h => ?_)
  · obtain ⟨a, ca, lo, hi, rfl, _⟩ := h
    rfl
  · obtain ⟨a, ca, lo, hi, rfl, S, hd, q⟩ := h
    refine ⟨_, (pss_cons (ps_set (i := 3) sc_between.nd rfl (.inl rfl) (pe_call (ok_take T) (hr.mono (by first | decide | exact Nat.le_refl _)) (by rfl) T.g_take T.F_take.kp T.b_take .nil pass0 (pa_cons (pv 0) (pa_cons pe_int pa_nil))))
      (pss_cons (ps_if (PW.pt (pw_or (pt_cmpR op_eq (pv 3) pe_int (nomark _)) (pw_or1 (pt_cmpR op_lt (pv 2) (pv 1) (nomark _))))) (pss_one (ps_ret (pv 1))) pss_nil)
      (pss_cons (ps_if (pt_cmpR op_eq (pv 3) pe_int (nomark _)) (pss_one (ps_ret (pv 2))) pss_nil)
      (pss_one (ps_ret (pe_op op_add (pv 1) (pe_call (ok_take T) (hr.mono (by first | decide | exact Nat.le_refl _)) (by rfl) T.g_take T.F_take.kp T.b_take .nil pass0 (pa_cons (pv 0) (pa_cons (pe_op op_add (pe_op op_sub (pv 2) (pv 1)) pe_int) pa_nil))))))))), ?_⟩
    refine ⟨_, rfl, a, ca, 6, rfl, S, by decide, fun d H1 d0 d1 B1 S1 => ?_⟩
    refine ⟨_, rfl, rfl, _, rfl, ite2 (fun g1 => ?_) (fun g1 => ?_)⟩
    · exact ⟨_, rfl, q _ _ (Int.le_refl _) (.inr rfl) B1 S1⟩
    · refine ⟨_, rfl, _, rfl, _, _, rfl, rfl, _, rfl, ite2 (fun g2 => ?_) (fun g2 => ?_)⟩
      · exact ⟨_, rfl, q _ _ (Int.le_refl _) (.inr rfl) B1 S1⟩
      · have g2' : lo ≤ hi := by
          have := of_decide_eq_false (Bool.not_eq_true _ ▸ g2 : decide (hi < lo) = false)
          omega
        refine ⟨_, rfl, rfl, _, rfl, ite2 (fun g3 => ?_) (fun g3 => ?_)⟩
        · exact ⟨_, rfl, q _ _ g2' (.inl (Int.le_refl _)) B1 S1⟩
        · refine ⟨_, rfl, _, rfl, _, rfl, _, rfl, _, _, rfl, rfl, _, _, rfl, rfl, a, ca, _, rfl, S1, by show hi - lo + 1 < _; omega, fun e H2 e0 e1 B2 S2 => ?_⟩
          have e1' : e < hi - lo + 1 ∨ e = 0 := e1
          exact ⟨_, _, rfl, rfl, q _ _ (by omega) (by omega) (B1.trans B2) S2⟩

/-- an alphabet; the store moves on, all else stands -/
def sp_letters (_ : PySem.W.Frag) : Sp := fun vs H Q _ => ∃ (a ca : Addr) (n : Int), vs = [.ref a, .int n] ∧ Sto H a ca ∧
  ∀ (z : Str) (H' : Hp), IsAlpha z → But a H H' → Sto H' a ca → Q (.str z) H'
theorem ok_letters (T : Txt K mg base) : FnOk P w K mg base CX0 (2 + 1) T.f_letters T.fd_letters ["store", "limit"] (sp_letters K) := by
  refine T.F_letters.ok sc_letters (fun vs H Q E h => ?_) (fun cdv A outer s H vs Q E hr h => ?_)
  · obtain ⟨a, ca, n, rfl, _⟩ := h
    rfl
  · obtain ⟨a, ca, n, rfl, S, q⟩ := h
    refine ⟨_, (pss_cons (ps_set (i := 2) sc_letters.nd rfl (.inl rfl) (pe_op op_add pe_int (pe_call (ok_take T) (hr.mono (by first | decide | exact Nat.le_refl _)) (by rfl) T.g_take T.F_take.kp T.b_take .nil pass0 (pa_cons (pv 0) (pa_cons (pe_callB (call_max2 rfl) (by rfl) T.z_max (by decide +kernel) (pa_cons pe_int (pa_cons (pe_callB (call_min2 rfl) (by rfl) T.z_min (by decide +kernel) (pa_cons pe_int (pa_cons (pv 1) pa_nil))) pa_nil))) pa_nil)))))
      (pss_cons (ps_set (i := 3) sc_letters.nd rfl (.inl rfl) pe_str)
      (pss_cons (ps_set (i := 4) sc_letters.nd rfl (.inl rfl) (pe_call (ok_take T) (hr.mono (by first | decide | exact Nat.le_refl _)) (by rfl) T.g_take T.F_take.kp T.b_take .nil pass0 (pa_cons (pv 0) (pa_cons pe_int pa_nil))))
      (pss_cons (ps_if (pt_cmpR op_eq (pv 4) pe_int (nomark _)) (pss_one (ps_ret (pe_slice sl_str (pv 3) po_none (po_some (pv 2))))) pss_nil)
      (pss_cons (ps_if (pt_cmpR op_eq (pv 4) pe_int (nomark _)) (pss_one (ps_ret (pe_slice sl_str (pv 3) (po_some (pe_op op_sub pe_int (pv 2))) po_none))) pss_nil)
      (pss_cons (ps_set (i := 5) sc_letters.nd rfl (.inl rfl) (pe_un un_neg pe_int))
      (pss_cons (ps_set (i := 6) sc_letters.nd rfl (.inl rfl) pe_str)
      (pss_cons (ps_for PassesOwn.never rfl (pi_range1 (by rfl) T.z_range (pa_cons (pv 2) pa_nil)) (pg_name (i := 7) sc_letters.nd rfl (.inl rfl)) (pss_cons (ps_set (i := 5) sc_letters.nd rfl (.inl rfl) (pe_op op_add (pe_op op_add (pv 5) pe_int) (pe_call (ok_take T) (hr.mono (by first | decide | exact Nat.le_refl _)) (by rfl) T.g_take T.F_take.kp T.b_take .nil pass0 (pa_cons (pv 0) (pa_cons (pe_op op_sub (pe_op op_add (pe_op op_sub pe_int (pv 2)) (pv 7)) (pv 5)) pa_nil)))))
      (pss_one (ps_set (i := 6) sc_letters.nd rfl (.inl rfl) (pe_op op_add_str (pv 6) (pe_ix ix_str (pv 3) (pv 5) (fun _ _ => rfl)))))))
      (pss_one (ps_ret (pv 6))))))))))), ?_⟩
    have hm : (if (if n < 4 then n else 4) > 1 then (if n < 4 then n else 4) else 1) ≤ 4 ∧ 1 ≤ (if (if n < 4 then n else 4) > 1 then (if n < 4 then n else 4) else 1) := by
      split <;> split <;> omega
    refine ⟨_, rfl, _, rfl, _, _, rfl, _, _, rfl, a, ca, _, rfl, S, Int.lt_of_le_of_lt hm.1 (by decide), fun d H1 d0 d1 B1 S1 => ?_⟩
    have d4 : d < 4 := by
      have e1 : d < (if (if n < 4 then n else 4) > 1 then (if n < 4 then n else 4) else 1) ∨ d = 0 := d1
      omega
    obtain ⟨j, rfl⟩ := Int.eq_ofNat_of_zero_le d0
    have hj : j < 4 := by omega
    refine ⟨_, _, rfl, rfl, _, rfl, a, ca, 4, rfl, S1, by decide, fun e H2 e0 e1 B2 S2 => ?_⟩
    have B12 := B1.trans B2
    refine ⟨_, rfl, rfl, _, rfl, ite2 (fun g1 => ?_) (fun g1 => ?_)⟩
    · -- every[:size]
      refine ⟨_, rfl, _, rfl, _, rfl, abc, rfl, small_text (by rw [len_abc]; decide), ?_⟩
      have e : (1 : Int) + (j : Int) = ((1 + j : Nat) : Int) := by omega
      show Q (.str (cutS abc none (some (1 + (j : Int))))) H2
      rw [e]
      exact q _ _ (abc_upto (by omega) (by omega)) B12 S2
    · refine ⟨_, rfl, rfl, _, rfl, ite2 (fun g2 => ?_) (fun g2 => ?_)⟩
      · -- every[26 - size:]
        refine ⟨_, rfl, _, rfl, _, _, rfl, rfl, _, rfl, abc, rfl, small_text (by rw [len_abc]; decide), ?_⟩
        have e : (26 : Int) - (1 + (j : Int)) = ((25 - j : Nat) : Int) := by omega
        show Q (.str (cutS abc (some (26 - (1 + (j : Int)))) none)) H2
        rw [e]
        exact q _ _ (abc_from (by omega) (by omega)) B12 S2
      · refine ⟨_, rfl, _, rfl, _, rfl, by show -(2 ^ 62 : Int) ≤ 1 + (j : Int); omega, by show 1 + (j : Int) < 2 ^ 62; omega, ?_⟩
        have ej : ((1 : Int) + (j : Int)).toNat = j + 1 := by omega
        refine for_range (lo := 0) (n := ((1 : Int) + (j : Int)).toNat) (fun i σ H' => ∃ (at_ : Int) (v : Str) (y : Option V), σ = [some (.ref a), some (.int n), some (.int (1 + (j : Int))), some (.str abc), some (.int e), some (.int at_), some (.str v), y] ∧
          But a H H' ∧ Sto H' a ca ∧ -1 ≤ at_ ∧ at_ ≤ 25 - (1 + (j : Int)) + (i : Int) ∧ v.length = i ∧ (cs v).Pairwise (· < ·) ∧ ∀ c ∈ cs v, 97 ≤ c ∧ (c : Int) ≤ 97 + at_) ?_ ?_ ?_
        · refine ⟨-1, Str.ofString "", none, rfl, B12, S2, by decide, by omega, by decide +kernel, ?_, fun c m => ?_⟩
          · rw [cs_empty]
            exact .nil
          · rw [cs_empty] at m
            exact absurd m List.not_mem_nil
        · rintro i σ H3 hi ⟨at_, v, y, rfl, B3, S3, a0, a1, hl, hp, hc⟩
          have hi' : i < j + 1 := by rw [← ej]; exact hi
          refine ⟨_, rfl, _, _, rfl, rfl, _, rfl, _, rfl, _, _, rfl, rfl, _, rfl, _, _, rfl, rfl, _, rfl, _, _, rfl, rfl, a, ca, _, rfl, S3, by show 26 - (1 + (j : Int)) + (0 + (i : Int)) - at_ < 1073741824; omega, fun f H4 f0 f1 B4 S4 => ?_⟩
          have f1' : f < 26 - (1 + (j : Int)) + (0 + (i : Int)) - at_ ∨ f = 0 := f1
          have k0 : 0 ≤ at_ + 1 + f := by omega
          have k1 : at_ + 1 + f ≤ 25 - (1 + (j : Int)) + ((i : Int) + 1) := by omega
          obtain ⟨g, eg⟩ := Int.eq_ofNat_of_zero_le k0
          have hg : g < 26 := by omega
          have hat : atI (cs abc) (at_ + 1 + f) = some (97 + g) := by
            rw [eg, cs_abc]
            refine atI_nat ?_
            rw [List.getElem?_range' hg]
            simp
          refine ⟨_, _, rfl, rfl, _, rfl, _, rfl, _, rfl, abc, _, _, rfl, rfl, small_text (by rw [len_abc]; decide), hat, _, _, rfl, rfl, ?_, ?_⟩
          · refine small_text ?_
            show v.length + 1 ≤ 1000000
            omega
          · refine ⟨at_ + 1 + f, v ++ ⟨#[97 + g]⟩, _, rfl, B3.trans B4, S4, by omega, by omega, ?_, ?_, fun c m => ?_⟩
            · rw [length_app, hl]
              rfl
            · rw [cs_app, cs_one]
              refine List.pairwise_append.mpr ⟨hp, List.pairwise_singleton _ _, fun x hx y hy => ?_⟩
              rw [List.mem_singleton.mp hy]
              have := hc x hx
              omega
            · rw [cs_app, cs_one] at m
              rcases List.mem_append.mp m with m | m
              · have := hc c m
                omega
              · rw [List.mem_singleton.mp m]
                omega
        · rintro σ H3 ⟨at_, v, y, rfl, B3, S3, a0, a1, hl, hp, hc⟩
          refine ⟨_, rfl, q v H3 ⟨hp, fun c m => ?_, ?_, ?_⟩ B3 S3⟩
          · have := hc c m
            omega
          · omega
          · omega

/-- a sign of the text, an item of the list; the store moves on, all else stands -/
def sp_pick (_ : PySem.W.Frag) : Sp := fun vs H Q _ => ∃ (a ca : Addr), Sto H a ca ∧ ((∃ z : Str, vs = [.ref a, .str z] ∧ 0 < z.length ∧ z.length ≤ 1000000 ∧
    ∀ (c : Nat) (H' : Hp), c ∈ cs z → But a H H' → Sto H' a ca → Q (.str ⟨#[c]⟩) H') ∨
  (∃ (l : Addr) (xs : List V), vs = [.ref a, .ref l] ∧ l ≠ a ∧ H l = some (.lst xs) ∧ 0 < xs.length ∧ xs.length ≤ 1000000 ∧
    ∀ (x : V) (H' : Hp), x ∈ xs → But a H H' → Sto H' a ca → Q x H'))
theorem ok_pick (T : Txt K mg base) : FnOk P w K mg base CX0 (2 + 1) T.f_pick T.fd_pick ["store", "row"] (sp_pick K) := by
  refine T.F_pick.ok sc_pick (fun vs H Q E h => ?_) (fun cdv A outer s H vs Q E hr h => ?_)
  · obtain ⟨a, ca, _, ⟨z, rfl, _⟩ | ⟨l, xs, rfl, _⟩⟩ := h <;> rfl
  · obtain ⟨a, ca, S, h⟩ := h
    refine ⟨_, (pss_one (ps_ret (pe_ix ix_seq (pv 1) (pe_call (ok_take T) (hr.mono (by first | decide | exact Nat.le_refl _)) (by rfl) T.g_take T.F_take.kp T.b_take .nil pass0 (pa_cons (pv 0) (pa_cons (pe_callB call_len (by rfl) T.z_len PySem.boot_len (pa_cons (pv 1) pa_nil)) pa_nil))) (fun _ _ => rfl)))), ?_⟩
    rcases h with ⟨z, rfl, h0, h1, q⟩ | ⟨l, xs, rfl, hla, hl, h0, h1, q⟩
    · refine ⟨_, rfl, _, rfl, _, rfl, _, _, rfl, ⟨small_text h1, rfl⟩, a, ca, _, rfl, S, by omega, fun d H' d0 d1 hB S' => ?_⟩
      obtain ⟨j, rfl⟩ := Int.eq_ofNat_of_zero_le d0
      have hj : j < (cs z).length := by
        rw [cs_len]
        omega
      exact .inr (.inr ⟨z, _, (cs z)[j], rfl, rfl, small_text h1, atI_nat (List.getElem?_eq_getElem hj), q _ _ (List.getElem_mem hj) hB S'⟩)
    · refine ⟨_, rfl, _, rfl, _, rfl, _, _, rfl, .inl ⟨_, .inl (.inl hl), rfl⟩, a, ca, _, rfl, S, by omega, fun d H' d0 d1 hB S' => ?_⟩
      obtain ⟨j, rfl⟩ := Int.eq_ofNat_of_zero_le d0
      have hj : j < xs.length := by omega
      exact .inl ⟨l, xs, _, xs[j], rfl, rfl, .inl (.inl (hB _ _ hla hl)), atI_nat (List.getElem?_eq_getElem hj), q _ _ (List.getElem_mem hj) hB S'⟩

/-- a text of letters of z, of at most n signs -/
def sp_word (_ : PySem.W.Frag) : Sp := fun vs H Q _ => ∃ (a ca : Addr) (z : Str) (n : Int), vs = [.ref a, .str z, .int n] ∧ Sto H a ca ∧ 0 < z.length ∧ z.length ≤ 1000000 ∧ n ≤ 100000 ∧
  ∀ (v : Str) (H' : Hp), Over z v → (v.length : Int) ≤ (if n < 0 then 0 else n) → But a H H' → Sto H' a ca → Q (.str v) H'
theorem ok_word (T : Txt K mg base) : FnOk P w K mg base CX0 (3 + 1) T.f_word T.fd_word ["store", "letters", "limit"] (sp_word K) := by
  refine T.F_word.ok sc_word (fun vs H Q E h => ?_) (fun cdv A outer s H vs Q E hr h => ?_)
  · obtain ⟨a, ca, z, n, rfl, _⟩ := h
    rfl
  · obtain ⟨a, ca, z, n, rfl, S, hz0, hz1, hn, q⟩ := h
    refine ⟨_, (pss_cons (ps_set (i := 3) sc_word.nd rfl (.inl rfl) (pe_call (ok_take T) (hr.mono (by first | decide | exact Nat.le_refl _)) (by rfl) T.g_take T.F_take.kp T.b_take .nil pass0 (pa_cons (pv 0) (pa_cons pe_int pa_nil))))
      (pss_cons (ps_if (PW.pt (pw_or (pt_cmpR op_eq (pv 3) pe_int (nomark _)) (pw_or1 (pt_cmpR op_lt (pv 2) pe_int (nomark _))))) (pss_one (ps_ret pe_str)) pss_nil)
      (pss_cons (ps_if (pt_cmpR op_eq (pv 3) pe_int (nomark _)) (pss_one (ps_ret (pe_op op_rep_str (pe_call (ok_pick T) (hr.mono (by first | decide | exact Nat.le_refl _)) (by rfl) T.g_pick T.F_pick.kp T.b_pick .nil pass0 (pa_cons (pv 0) (pa_cons (pv 1) pa_nil))) (pv 2)))) pss_nil)
      (pss_cons (ps_set (i := 4) sc_word.nd rfl (.inl rfl) (pv 2))
      (pss_cons (ps_if (pt_cmpR op_gt (pv 3) pe_int (nomark _)) (pss_one (ps_set (i := 4) sc_word.nd rfl (.inl rfl) (pe_call (ok_take T) (hr.mono (by first | decide | exact Nat.le_refl _)) (by rfl) T.g_take T.F_take.kp T.b_take .nil pass0 (pa_cons (pv 0) (pa_cons (pe_op op_add (pv 2) pe_int) pa_nil))))) pss_nil)
      (pss_cons (ps_if (pt_cmpR op_eq (pv 3) pe_int (nomark _)) (pss_one (ps_ret (pe_op op_rep_str (pe_call (ok_pick T) (hr.mono (by first | decide | exact Nat.le_refl _)) (by rfl) T.g_pick T.F_pick.kp T.b_pick .nil pass0 (pa_cons (pv 0) (pa_cons (pv 1) pa_nil))) (pv 4)))) pss_nil)
      (pss_one (ps_ret (pe_join pe_str (pe_lc (own := [("k", 5)]) (g := gName 5) rfl sc_word.nd (pi_range1 (by rfl) T.z_range (pa_cons (pv 4) pa_nil)) (blkOk_by (N := ["store", "letters", "limit", "draw", "size", "k"]) (sc := defScope s_word) (by decide +kernel)) (fun _ _ _ _ _ => pg_name (i := 5) sc_word.nd rfl (Or.inl rfl)) (fun _ _ _ _ _ => pts_nil) (fun _ _ _ _ _ => (pe_call (ok_pick T) (hr.mono (by first | decide | exact Nat.le_refl _)) (by rfl) T.g_pick T.F_pick.kp T.b_pick .nil pass0 (pa_cons (pv 0) (pa_cons (pv 1) pa_nil)))))))))))))), ?_⟩
    refine ⟨_, rfl, a, ca, 9, rfl, S, by decide, fun d H1 d0 d1 B1 S1 => ?_⟩
    have h0 : ((0 : Nat) : Int) ≤ (if n < 0 then 0 else n) := by split <;> omega
    refine ⟨_, rfl, rfl, _, rfl, ite2 (fun g1 => ?_) (fun g1 => ?_)⟩
    · exact q _ _ Over.empty h0 B1 S1
    · refine ⟨_, rfl, _, _, rfl, rfl, _, rfl, ite2 (fun g2 => ?_) (fun g2 => ?_)⟩
      · exact q _ _ Over.empty h0 B1 S1
      · have g2' : 1 ≤ n := by
          have := of_decide_eq_false (Bool.not_eq_true _ ▸ g2 : decide (n < 1) = false)
          omega
        have hn0 : (if n < 0 then (0 : Int) else n) = n := if_neg (by omega)
        rw [hn0] at q
        have one_ok : ∀ (c : Nat) (k : Int) (H' : Hp), c ∈ cs z → 0 ≤ k → k ≤ n → But a H H' → Sto H' a ca → Q (.str (Txt.mul ⟨#[c]⟩ k)) H' := fun c k H' hc k0 k1 B S => by
          refine q _ _ (Over.one hc).mul ?_ B S
          rw [length_mul]
          show ((1 * k.toNat : Nat) : Int) ≤ n
          omega
        refine ⟨_, rfl, rfl, _, rfl, ite2 (fun g3 => ?_) (fun g3 => ?_)⟩
        · refine ⟨_, rfl, _, rfl, a, ca, S1, .inl ⟨z, rfl, hz0, hz1, fun c H2 hc B2 S2 => ⟨_, rfl, _, n, rfl, rfl, by show 1 ≤ 16; decide, by omega, by omega, one_ok c n H2 hc (by omega) (Int.le_refl _) (B1.trans B2) S2⟩⟩⟩
        · refine ⟨_, rfl, _, rfl, _, _, rfl, rfl, _, rfl, ite2 (fun g4 => ?_) (fun g4 => ?_)⟩
          · refine ⟨_, rfl, _, rfl, _, _, rfl, rfl, a, ca, _, rfl, S1, by show n + 1 < 1073741824; omega, fun k H2 k0 k1 B2 S2 => ?_⟩
            have k2 : k < n + 1 ∨ k = 0 := k1
            have kn : k ≤ n := by omega
            refine ⟨_, rfl, rfl, _, rfl, ite2 (fun g5 => ?_) (fun g5 => ?_)⟩
            · exact ⟨_, rfl, _, rfl, a, ca, S2, .inl ⟨z, rfl, hz0, hz1, fun c H3 hc B3 S3 => ⟨_, rfl, _, k, rfl, rfl, by show 1 ≤ 16; decide, by omega, by omega, one_ok c k H3 hc k0 kn ((B1.trans B2).trans B3) S3⟩⟩⟩
            · refine ⟨⟨_, rfl⟩, _, rfl, k, rfl, by show -(2 ^ 62 : Int) ≤ k; omega, by show k < 2 ^ 62; omega, fun D hD => ?_⟩
              have hDa : D ≠ a := (S2.ne hD).1
              refine lc_range (lo := 0) (n := (k).toNat) (fun i H' => ∃ ys : List Str, H' D = some (.lst (ys.map V.str)) ∧ ys.length = i ∧ (∀ y ∈ ys, ∃ c ∈ cs z, y = ⟨#[c]⟩) ∧ But a H H' ∧ Sto H' a ca) ?_ ?_ ?_
              · exact ⟨[], upd_same, rfl, fun y m => absurd m List.not_mem_nil, (B1.trans B2).trans (But.new hD), S2.new hD⟩
              · rintro i H' hi ⟨ys, h1, h2, h3, B, S'⟩
                refine ⟨rfl, ?_⟩
                refine ⟨_, rfl, _, rfl, a, ca, S', .inl ⟨z, rfl, hz0, hz1, fun c H3 hc B3 S3 => ?_⟩⟩
                refine ⟨_, B3 _ _ hDa h1, ?_, ys ++ [⟨#[c]⟩], ?_, ?_, ?_, ?_, ?_⟩
                · rw [List.length_map, h2]
                  have hi' : i < (k).toNat := hi
                  exact Nat.lt_of_lt_of_le (by omega : i < 1000000) (by decide)
                · rw [upd_same, List.map_append]
                  rfl
                · rw [List.length_append, h2]
                  rfl
                · intro y m
                  rcases List.mem_append.mp m with m | m
                  · exact h3 y m
                  · exact ⟨c, hc, List.mem_singleton.mp m⟩
                · exact (B1.trans B2).grown hD (B.trans B3) (B3 _ _ hDa h1)
                · exact S3.put (S2.ne hD)
              · rintro H' ⟨ys, h1, h2, h3, B, S'⟩
                have sum1 : (ys.map (·.length)).sum = ys.length := by
                  clear h1 h2
                  induction ys with
                  | nil => rfl
                  | cons y r ih =>
                    obtain ⟨c, _, rfl⟩ := h3 y List.mem_cons_self
                    rw [List.map_cons, List.sum_cons, ih fun x m => h3 x (List.mem_cons_of_mem _ m), List.length_cons]
                    show 1 + r.length = r.length + 1
                    omega
                refine ⟨_, _, ys, rfl, rfl, .inl (.inl (.inl h1)), ?_, q _ _ ?_ ?_ B S'⟩
                · rw [sum1]
                  show ys.length + ys.length * 0 ≤ 16777216
                  omega
                · intro c m
                  rw [cs_join0, List.mem_flatten] at m
                  obtain ⟨l, hl, hc⟩ := m
                  obtain ⟨y, hy, rfl⟩ := List.mem_map.mp hl
                  obtain ⟨c', hc', rfl⟩ := h3 y hy
                  rw [cs_one] at hc
                  rw [List.mem_singleton.mp hc]
                  exact hc'
                · have e : (Txt.join (Str.ofString "") ys).length = ys.length := by
                    rw [← cs_len, cs_join0, List.length_flatten, List.map_map]
                    rw [← sum1]
                    congr 1
                  rw [e]
                  omega
          · have nn : 0 ≤ n := by omega
            refine ⟨_, rfl, rfl, _, rfl, ite2 (fun g5 => ?_) (fun g5 => ?_)⟩
            · exact ⟨_, rfl, _, rfl, a, ca, S1, .inl ⟨z, rfl, hz0, hz1, fun c H3 hc B3 S3 => ⟨_, rfl, _, n, rfl, rfl, by show 1 ≤ 16; decide, by omega, by omega, one_ok c n H3 hc nn (Int.le_refl _) (B1.trans B3) S3⟩⟩⟩
            · refine ⟨⟨_, rfl⟩, _, rfl, n, rfl, by show -(2 ^ 62 : Int) ≤ n; omega, by show n < 2 ^ 62; omega, fun D hD => ?_⟩
              have hDa : D ≠ a := (S1.ne hD).1
              refine lc_range (lo := 0) (n := (n).toNat) (fun i H' => ∃ ys : List Str, H' D = some (.lst (ys.map V.str)) ∧ ys.length = i ∧ (∀ y ∈ ys, ∃ c ∈ cs z, y = ⟨#[c]⟩) ∧ But a H H' ∧ Sto H' a ca) ?_ ?_ ?_
              · exact ⟨[], upd_same, rfl, fun y m => absurd m List.not_mem_nil, B1.trans (But.new hD), S1.new hD⟩
              · rintro i H' hi ⟨ys, h1, h2, h3, B, S'⟩
                refine ⟨rfl, ?_⟩
                refine ⟨_, rfl, _, rfl, a, ca, S', .inl ⟨z, rfl, hz0, hz1, fun c H3 hc B3 S3 => ?_⟩⟩
                refine ⟨_, B3 _ _ hDa h1, ?_, ys ++ [⟨#[c]⟩], ?_, ?_, ?_, ?_, ?_⟩
                · rw [List.length_map, h2]
                  have hi' : i < (n).toNat := hi
                  exact Nat.lt_of_lt_of_le (by omega : i < 1000000) (by decide)
                · rw [upd_same, List.map_append]
                  rfl
                · rw [List.length_append, h2]
                  rfl
                · intro y m
                  rcases List.mem_append.mp m with m | m
                  · exact h3 y m
                  · exact ⟨c, hc, List.mem_singleton.mp m⟩
                · exact B1.grown hD (B.trans B3) (B3 _ _ hDa h1)
                · exact S3.put (S1.ne hD)
              · rintro H' ⟨ys, h1, h2, h3, B, S'⟩
                have sum1 : (ys.map (·.length)).sum = ys.length := by
                  clear h1 h2
                  induction ys with
                  | nil => rfl
                  | cons y r ih =>
                    obtain ⟨c, _, rfl⟩ := h3 y List.mem_cons_self
                    rw [List.map_cons, List.sum_cons, ih fun x m => h3 x (List.mem_cons_of_mem _ m), List.length_cons]
                    show 1 + r.length = r.length + 1
                    omega
                refine ⟨_, _, ys, rfl, rfl, .inl (.inl (.inl h1)), ?_, q _ _ ?_ ?_ B S'⟩
                · rw [sum1]
                  show ys.length + ys.length * 0 ≤ 16777216
                  omega
                · intro c m
                  rw [cs_join0, List.mem_flatten] at m
                  obtain ⟨l, hl, hc⟩ := m
                  obtain ⟨y, hy, rfl⟩ := List.mem_map.mp hl
                  obtain ⟨c', hc', rfl⟩ := h3 y hy
                  rw [cs_one] at hc
                  rw [List.mem_singleton.mp hc]
                  exact hc'
                · have e : (Txt.join (Str.ofString "") ys).length = ys.length := by
                    rw [← cs_len, cs_join0, List.length_flatten, List.map_map]
                    rw [← sum1]
                    congr 1
                  rw [e]
                  omega

/-- a text of letters of z, of n signs -/
def sp_long_word (_ : PySem.W.Frag) : Sp := fun vs H Q _ => ∃ (a ca : Addr) (z : Str) (n : Int), vs = [.ref a, .str z, .int n] ∧ Sto H a ca ∧ 0 < z.length ∧ z.length ≤ 1000000 ∧ -100000 ≤ n ∧ n ≤ 100000 ∧
  ∀ (v : Str) (H' : Hp), Over z v → (v.length : Int) = (if n < 1 then 0 else n) → But a H H' → Sto H' a ca → Q (.str v) H'
theorem ok_long_word (T : Txt K mg base) : FnOk P w K mg base CX0 (4 + 1) T.f_long_word T.fd_long_word ["store", "letters", "size"] (sp_long_word K) := by
  refine T.F_long_word.ok sc_long_word (fun vs H Q E h => ?_) (fun cdv A outer s H vs Q E hr h => ?_)
  · obtain ⟨a, ca, z, n, rfl, _⟩ := h
    rfl
  · obtain ⟨a, ca, z, n, rfl, S, hz0, hz1, hn0, hn, q⟩ := h
    refine ⟨_, (pss_cons (ps_set (i := 3) sc_long_word.nd rfl (.inl rfl) (pe_op op_add_str (pe_call (ok_pick T) (hr.mono (by first | decide | exact Nat.le_refl _)) (by rfl) T.g_pick T.F_pick.kp T.b_pick .nil pass0 (pa_cons (pv 0) (pa_cons (pv 1) pa_nil))) (pe_call (ok_word T) (hr.mono (by first | decide | exact Nat.le_refl _)) (by rfl) T.g_word T.F_word.kp T.b_word .nil pass0 (pa_cons (pv 0) (pa_cons (pv 1) (pa_cons pe_int pa_nil))))))
      (pss_cons (ps_set (i := 4) sc_long_word.nd rfl (.inl rfl) (pe_slice sl_str (pe_op op_rep_str (pv 3) (pv 2)) po_none (po_some (pv 2))))
      (pss_cons (ps_if (pt_cmpR op_lt (pv 2) pe_int (nomark _)) (pss_one (ps_ret pe_str)) pss_nil)
      (pss_cons (ps_set (i := 5) sc_long_word.nd rfl (.inl rfl) (pe_call (ok_between T) (hr.mono (by first | decide | exact Nat.le_refl _)) (by rfl) T.g_between T.F_between.kp T.b_between .nil pass0 (pa_cons (pv 0) (pa_cons pe_int (pa_cons (pe_op op_sub (pv 2) pe_int) pa_nil)))))
      (pss_one (ps_ret (pe_op op_add_str (pe_op op_add_str (pe_slice sl_str (pv 4) po_none (po_some (pv 5))) (pe_call (ok_pick T) (hr.mono (by first | decide | exact Nat.le_refl _)) (by rfl) T.g_pick T.F_pick.kp T.b_pick .nil pass0 (pa_cons (pv 0) (pa_cons (pv 1) pa_nil)))) (pe_slice sl_str (pv 4) (po_some (pe_op op_add (pv 5) pe_int)) po_none)))))))), ?_⟩
    refine ⟨_, rfl, _, rfl, a, ca, S, .inl ⟨z, rfl, hz0, hz1, fun c H1 hc B1 S1 => ?_⟩⟩
    refine ⟨_, rfl, _, rfl, a, ca, z, 4, rfl, S1, hz0, hz1, by decide, fun u H2 hu lu B2 S2 => ?_⟩
    have lu' : u.length ≤ 4 := by
      have : ((u.length : Nat) : Int) ≤ 4 := lu
      omega
    have lp : ((⟨#[c]⟩ : Str) ++ u).length = 1 + u.length := length_app _ _
    have hp : Over z ((⟨#[c]⟩ : Str) ++ u) := (Over.one hc).app hu
    refine ⟨_, _, rfl, rfl, small_text (by show 1 + u.length ≤ 1000000; omega), ?_⟩
    refine ⟨_, rfl, _, rfl, _, n, rfl, rfl, by rw [lp]; omega, by omega, by omega, _, rfl, _, rfl, _, rfl, ?_, ?_⟩
    · rw [length_mul, lp]
      refine small_text ?_
      have : (1 + u.length) * n.toNat ≤ 5 * n.toNat := Nat.mul_le_mul_right _ (by omega)
      omega
    · refine ⟨_, rfl, _, _, rfl, rfl, _, rfl, ite2 (fun g1 => ?_) (fun g1 => ?_)⟩
      · have g1' : n < 1 := of_decide_eq_true g1
        refine q _ _ Over.empty ?_ (B1.trans B2) S2
        rw [if_pos g1']
        rfl
      · have g1' : ¬ n < 1 := fun z => g1 (decide_eq_true z)
        obtain ⟨k, rfl⟩ := Int.eq_ofNat_of_zero_le (by omega : 0 ≤ n)
        rw [if_neg g1'] at q
        have lw : (cutS (Txt.mul ((⟨#[c]⟩ : Str) ++ u) (k : Int)) none (some (k : Int))).length = k := by
          rw [← cs_len, cs_upto, List.length_take, cs_len, length_mul, lp]
          have : 1 * k ≤ (1 + u.length) * (k : Int).toNat := Nat.mul_le_mul (by omega) (by omega)
          omega
        have ow : Over z (cutS (Txt.mul ((⟨#[c]⟩ : Str) ++ u) (k : Int)) none (some (k : Int))) := hp.mul.cut
        refine ⟨_, rfl, _, rfl, _, _, rfl, rfl, a, ca, 0, _, rfl, S2, by show (k : Int) - 1 - 0 < 1000000000; omega, fun r H3 r0 r1 B3 S3 => ?_⟩
        have r1' : r ≤ (k : Int) - 1 ∨ r = 0 := r1
        obtain ⟨j, rfl⟩ := Int.eq_ofNat_of_zero_le r0
        refine ⟨_, rfl, _, rfl, _, rfl, _, rfl, small_text (by rw [lw]; omega), _, rfl, _, rfl, a, ca, S3, .inl ⟨z, rfl, hz0, hz1, fun d H4 hd B4 S4 => ?_⟩⟩
        have l1 : (cutS (cutS (Txt.mul ((⟨#[c]⟩ : Str) ++ u) (k : Int)) none (some (k : Int))) none (some (j : Int))).length = j := by
          rw [← cs_len, cs_upto, List.length_take, cs_len, lw]
          omega
        have l2 : (cutS (cutS (Txt.mul ((⟨#[c]⟩ : Str) ++ u) (k : Int)) none (some (k : Int))) (some ((j : Int) + 1)) none).length = k - (j + 1) := by
          rw [← cs_len, show ((j : Int) + 1) = ((j + 1 : Nat) : Int) from rfl, cs_from, List.length_drop, cs_len, lw]
        refine ⟨_, _, rfl, rfl, small_text ?_, _, rfl, _, rfl, _, _, rfl, rfl, _, rfl, _, rfl, small_text (by rw [lw]; omega), _, _, rfl, rfl, small_text ?_, ?_⟩
        · show _ + 1 ≤ 1000000
          rw [l1]
          omega
        · rw [length_app, l1, l2]
          show j + 1 + (k - (j + 1)) ≤ 1000000
          omega
        · refine q _ _ ((ow.cut.app (Over.one hd)).app ow.cut) ?_ (((B1.trans B2).trans B3).trans B4) S4
          rw [length_app, length_app, l1, l2]
          show ((j + 1 + (k - (j + 1)) : Nat) : Int) = (k : Int)
          omega

def sp_is_word (_ : PySem.W.Frag) : Sp := fun vs H Q _ => ∃ L v : V, vs = [L, v] ∧ Shal H L ∧ Shal H v ∧ Good H ∧ ∀ (b : Bool) (H' : Hp), (b = true ↔ ∃ z x, L = .str z ∧ v = .str x ∧ IsAlpha z ∧ Over z x) → Same H H' → Q (.bl b) H'
theorem ok_is_word (T : Txt K mg base) : FnOk P w K mg base CX0 (1 + 1) T.f_is_word T.fd_is_word ["letters", "value"] (sp_is_word K) := by
  refine T.F_is_word.ok sc_is_word (fun vs H Q E h => ?_) (fun A outer s H vs Q E hr h => ?_)
  · obtain ⟨z, x, rfl, _⟩ := h
    rfl
  · obtain ⟨L, v, rfl, sL, sv, good, q⟩ := h
    refine ⟨_, (pss_cons (ps_if (PW.pt (pw_or (pt_not (pt_val (pe_call (ok_is_letters T) (hr.mono (by first | decide | exact Nat.le_refl _)) (by rfl) T.g_is_letters T.F_is_letters.kp T.b_is_letters .nil pass0 (pa_cons (pv 0) pa_nil)))) (pw_or1 (pt_not (pt_val (pe_callB call_isi (by rfl) T.z_isinstance (by decide +kernel) (pa_cons (pv 1) (pa_cons (pe_bltn (v := .ty "str") (by rfl) T.z_str (by decide +kernel) rfl) pa_nil)))))))) (pss_one (ps_ret pe_bl)) pss_nil)
      (pss_one (ps_ret (GQ.pe_allV hr T.z_all (i := 0) rfl T.B_is_word T.m_is_word rfl (GQ.genB_by (sc := defScope s_is_word) (by decide +kernel)) (pv 1))))), ?_⟩
    refine ⟨_, rfl, L, rfl, sL, good, fun b H1 hb s1 => ?_⟩
    cases b with
    | false =>
      refine ⟨_, rfl, iteC rfl (iteC rfl ?_)⟩
      refine q false _ ⟨fun h => (by cases h), fun ⟨z, x, e1, e2, al, _⟩ => ?_⟩ s1
      have := hb.mpr ⟨z, e1, al⟩
      cases this
    | true =>
      obtain ⟨z, rfl, al⟩ := hb.mp rfl
      refine ⟨_, rfl, iteF ?_⟩
      obtain ⟨ty, hty, kt⟩ := isi_str (K := K) (sv.same s1)
      refine ⟨_, rfl, _, _, _, _, _, rfl, .ty _, hty, kt, _, rfl, ?_⟩
      cases hs : isStr v with
      | false =>
        refine iteC rfl ?_
        refine q false _ ⟨fun h => (by cases h), fun ⟨z, x, e1, e2, al, _⟩ => ?_⟩ s1
        rw [e2] at hs
        cases hs
      | true =>
      obtain ⟨x, rfl⟩ := isStr_of hs
      refine iteF ?_
      refine ⟨_, rfl, x, z, rfl, rfl, s1.good good, fun H2 s2 => ?_⟩
      refine q _ _ ?_ (s1.trans s2)
      rw [List.all_eq_true]
      constructor
      · exact fun h => ⟨z, x, rfl, rfl, al, fun c hc => of_decide_eq_true (h c hc)⟩
      · rintro ⟨z', x', e1, e2, _, h⟩ c hc
        cases e1
        cases e2
        exact decide_eq_true (h c hc)

def sp_is_word_up_to (_ : PySem.W.Frag) : Sp := fun vs H Q _ => ∃ (L v : V) (m : Int), vs = [L, v, .int m] ∧ Shal H L ∧ Shal H v ∧ Good H ∧ ∀ (b : Bool) (H' : Hp), (b = true ↔ ∃ z x, L = .str z ∧ v = .str x ∧ IsAlpha z ∧ Over z x ∧ (x.length : Int) ≤ m) → Same H H' → Q (.bl b) H'
theorem ok_is_word_up_to (T : Txt K mg base) : FnOk P w K mg base CX0 (2 + 1) T.f_is_word_up_to T.fd_is_word_up_to ["letters", "value", "most"] (sp_is_word_up_to K) := by
  refine T.F_is_word_up_to.ok sc_is_word_up_to (fun vs H Q E h => ?_) (fun cdv A outer s H vs Q E hr h => ?_)
  · obtain ⟨z, x, m, rfl, _⟩ := h
    rfl
  · obtain ⟨L, v, m, rfl, sL, sv, good, q⟩ := h
    refine ⟨_, (pss_one (ps_ret (pe_and (pe_callB call_isi (by rfl) T.z_isinstance (by decide +kernel) (pa_cons (pv 1) (pa_cons (pe_bltn (v := .ty "str") (by rfl) T.z_str (by decide +kernel) rfl) pa_nil))) (pe_and (pe_cmpR op_le (pe_callB call_len_str (by rfl) T.z_len PySem.boot_len (pa_cons (pv 1) pa_nil)) (pv 2) (nomark _)) (pe_one (pe_call (ok_is_word T) (hr.mono (by first | decide | exact Nat.le_refl _)) (by rfl) T.g_is_word T.F_is_word.kp T.b_is_word .nil pass0 (pa_cons (pv 0) (pa_cons (pv 1) pa_nil)))))))), ?_⟩
    obtain ⟨ty, hty, kt⟩ := isi_str (K := K) sv
    refine ⟨_, rfl, _, _, _, _, _, rfl, .ty _, hty, kt, _, rfl, ?_⟩
    cases hs : isStr v with
    | false =>
      refine iteF (q false _ ⟨fun h => (by cases h), fun ⟨z, x, e1, e2, _⟩ => ?_⟩ (.refl H))
      rw [e2] at hs
      cases hs
    | true =>
    obtain ⟨x, rfl⟩ := isStr_of hs
    refine iteT ?_
    refine ⟨_, rfl, x, rfl, small_text sv.text, _, rfl, _, _, rfl, rfl, _, rfl, ite2 (fun g => ?_) (fun g => ?_)⟩
    · refine ⟨_, rfl, _, rfl, L, .str x, rfl, sL, sv, good, fun b H1 hb s1 => q b H1 ?_ s1⟩
      rw [hb]
      exact ⟨fun ⟨z, y, e1, e2, al, o⟩ => ⟨z, y, e1, e2, al, o, by cases e2; exact of_decide_eq_true g⟩, fun ⟨z, y, e1, e2, al, o, _⟩ => ⟨z, y, e1, e2, al, o⟩⟩
    · refine q _ _ ⟨fun h => (by simp at h), fun ⟨z, y, e1, e2, al, o, l⟩ => absurd (decide_eq_true ?_) g⟩ (.refl H)
      cases e2
      exact l

/-- the word that is shown so, over an alphabet; else None -/
def sp_shown_word (_ : PySem.W.Frag) : Sp := fun vs H Q _ => ∃ (L v : V) (m : Int), vs = [L, v, .int m] ∧ Shal H L ∧ Shal H v ∧ Good H ∧ (v = .str (Str.ofString "-") → Q (.str (Str.ofString "")) H) ∧
  (v ≠ .str (Str.ofString "-") → v = .str (Str.ofString "") → Q .non H) ∧
  (v ≠ .str (Str.ofString "-") → v ≠ .str (Str.ofString "") → ∀ H' : Hp, Same H H' → ((∃ z x, L = .str z ∧ v = .str x ∧ IsAlpha z ∧ Over z x ∧ (x.length : Int) ≤ m) → Q v H') ∧ ((¬ ∃ z x, L = .str z ∧ v = .str x ∧ IsAlpha z ∧ Over z x ∧ (x.length : Int) ≤ m) → Q .non H'))
theorem ok_shown_word (T : Txt K mg base) : FnOk P w K mg base CX0 (3 + 1) T.f_shown_word T.fd_shown_word ["letters", "text", "most"] (sp_shown_word K) := by
  refine T.F_shown_word.ok sc_shown_word (fun vs H Q E h => ?_) (fun cdv A outer s H vs Q E hr h => ?_)
  · obtain ⟨L, v, m, rfl, _⟩ := h
    rfl
  · obtain ⟨L, v, m, rfl, sL, sv, good, q1, q2, q3⟩ := h
    refine ⟨_, (pss_cons (ps_if (pt_cmpR (op_eqStr (Nat.lt_of_le_of_lt (Nat.le_add_right _ 64) hr.units)) (pv 1) pe_str (nomark _)) (pss_one (ps_ret pe_str)) pss_nil)
      (pss_cons (ps_if (PW.pt (pw_or (pt_cmpR (op_eqStr (Nat.lt_of_le_of_lt (Nat.le_add_right _ 64) hr.units)) (pv 1) pe_str (nomark _)) (pw_or1 (pt_not (pt_val (pe_call (ok_is_word_up_to T) (hr.mono (by first | decide | exact Nat.le_refl _)) (by rfl) T.g_is_word_up_to T.F_is_word_up_to.kp T.b_is_word_up_to .nil pass0 (pa_cons (pv 0) (pa_cons (pv 1) (pa_cons (pv 2) pa_nil))))))))) (pss_one (ps_ret pe_non)) pss_nil)
      (pss_one (ps_ret (pv 1))))), ?_⟩
    refine ⟨_, rfl, _, rfl, sv, _, rfl, ite2 (fun g => ?_) (fun g => ?_)⟩
    · exact q1 (of_decide_eq_true g)
    have n1 : v ≠ .str (Str.ofString "-") := fun e => g (decide_eq_true e)
    refine ⟨_, rfl, _, rfl, sv, _, rfl, ite2 (fun g => ?_) (fun g => ?_)⟩
    · exact iteC rfl (q2 n1 (of_decide_eq_true g))
    have n2 : v ≠ .str (Str.ofString "") := fun e => g (decide_eq_true e)
    refine ⟨_, rfl, _, rfl, _, rfl, L, v, m, rfl, sL, sv, good, fun b H1 hb s1 => ⟨_, rfl, ?_⟩⟩
    have q := q3 n1 n2 H1 s1
    cases b with
    | true => exact iteF ⟨_, rfl, q.1 (hb.mp rfl)⟩
    | false => exact iteC rfl (q.2 fun h => by cases hb.mpr h)

def sp_read_shown [Tabl] (C D : Addr) (_ : PySem.W.Frag) : Sp := fun vs H Q E => ∃ L v : V, vs = [L, v] ∧ Shal H L ∧ Shal H v ∧ Good H ∧ (¬ AlphaV L → Raised H C L E) ∧
  (AlphaV L → v = .str (Str.ofString "-") → ∀ H' : Hp, Same H H' → Q (.str (Str.ofString "")) H') ∧
  (AlphaV L → v ≠ .str (Str.ofString "-") → WordV L v 4000 → v ≠ .str (Str.ofString "") → ∀ H' : Hp, Same H H' → Q v H') ∧
  (AlphaV L → v ≠ .str (Str.ofString "-") → (¬ WordV L v 4000 ∨ v = .str (Str.ofString "")) → Raised H D v E)
theorem ok_read_shown (T : Txt K mg base) : FnOk P w K mg base (L2.CX P w) (6 + 1) T.f_read_shown T.fd_read_shown ["letters", "text"] (sp_read_shown T.C_BadLetters T.C_BadWord K) := by
  refine T.F_read_shown.okX sc_read_shown (fun vs H Q E h => ?_) (fun cdv A outer s H vs Q E hr h => ?_)
  · obtain ⟨L, v, rfl, _⟩ := h
    rfl
  · obtain ⟨L, v, rfl, sL, sv, good, qa, q1, q2, q3⟩ := h
    refine ⟨_, (pss_cons (ps_expr (pe_callS (ok_check_letters T) (hr.mono (by first | decide | exact Nat.le_refl _)) (by rfl) T.g_check_letters T.F_check_letters.kp T.b_check_letters (fun σ => passAt (takes_of rfl rfl rfl rfl) σ) (pa_cons (pv 0) pa_nil)))
      (pss_cons (ps_set (i := 2) sc_read_shown.nd rfl (.inl rfl) (pe_call (ok_shown_word T) (hr.mono (by first | decide | exact Nat.le_refl _)) (by rfl) T.g_shown_word T.F_shown_word.kp T.b_shown_word .nil pass0 (pa_cons (pv 0) (pa_cons (pv 1) (pa_cons (pe_glob (v := .int 4000) (by rfl) T.c_MAX_READ ⟨_, rfl⟩) pa_nil)))))
      (pss_cons (ps_if (pt_cmpR op_isN (pv 2) pe_non (nomark _)) (pss_one (ps_raise rfl (takes_of rfl rfl rfl rfl) (pmk_err1 T.E_BadWord T.iI_BadWord T.tI_BadWord T.no_BadWord_value (ok_init1 (k := 0) (p4 := ⟨0, 0, 0, 0⟩) T.FI_BadWord sci_BadWord (by decide) rfl) (hr.mono (by first | decide | exact Nat.le_refl _)) T.bI_BadWord pass0 (pa_cons (pv 1) pa_nil)))) pss_nil)
      (pss_one (ps_ret (pv 2)))))), ?_⟩
    refine ⟨_, rfl, L, rfl, sL, good, fun al H1 s1 => ?_, qa⟩
    refine ⟨_, rfl, _, rfl, L, v, 4000, rfl, sL.same s1, sv.same s1, s1.good good, fun e => ?_, fun n1 e => ?_, fun n1 n2 H2 s2 => ⟨fun wd => ?_, fun wd => ?_⟩⟩
    · exact ⟨_, rfl, rfl, _, rfl, iteN rfl ⟨_, rfl, q1 al e H1 s1⟩⟩
    · refine ⟨_, rfl, rfl, _, rfl, iteC rfl ?_⟩
      exact ⟨_, rfl, _, rfl, fun d nd => q3 al n1 (.inr e) d H1 _ s1 nd rfl⟩
    · obtain ⟨z, x, rfl, rfl, a, o, l⟩ := wd
      exact ⟨_, rfl, rfl, _, rfl, iteN rfl ⟨_, rfl, q2 al n1 ⟨z, x, rfl, rfl, a, o, by omega⟩ n2 H2 (s1.trans s2)⟩⟩
    · refine ⟨_, rfl, rfl, _, rfl, iteC rfl ?_⟩
      refine ⟨_, rfl, _, rfl, fun d nd => q3 al n1 (.inl fun ⟨z, x, e1, e2, a, o, l⟩ => wd ⟨z, x, e1, e2, a, o, by omega⟩) d H2 _ (s1.trans s2) nd rfl⟩

def sp_show_word (_ : PySem.W.Frag) : Sp := fun vs H Q _ => ∃ x : Str, vs = [.str x] ∧ x.length ≤ 1000000 ∧ (x ≠ Str.ofString "" → Q (.str x) H) ∧ (x = Str.ofString "" → Q (.str (Str.ofString "-")) H)
theorem ok_show_word (T : Txt K mg base) : FnOk P w K mg base CX0 (0 + 1) T.f_show_word T.fd_show_word ["word"] (sp_show_word K) := by
  refine T.F_show_word.ok sc_show_word (fun vs H Q E h => ?_) (fun cdv A outer s H vs Q E hr h => ?_)
  · obtain ⟨x, rfl, _⟩ := h
    rfl
  · obtain ⟨x, rfl, lx, q1, q2⟩ := h
    refine ⟨_, (pss_one (ps_ret (pe_ifExp (pt_truth (pv 0) (by intro _; rfl)) (pv 0) pe_str))), ?_⟩
    refine ⟨_, rfl, _, ⟨small_text lx, rfl⟩, ite2 (fun g => ?_) (fun g => ?_)⟩
    · exact ⟨_, rfl, q1 fun e => by rw [e] at g; revert g; decide⟩
    · refine q2 ?_
      have : x.length = 0 := by
        by_cases z : x.length = 0
        · exact z
        · exact absurd (by simpa using z) g
      exact cs_ext (by rw [cs_empty]; exact List.length_eq_zero_iff.mp (by rw [cs_len]; exact this))

def sp_shown_right [Tabl] (_ : PySem.W.Frag) : Sp := fun vs H Q _ => ∃ z x : Str, vs = [.str z, .str x] ∧ IsAlpha z ∧ Over z x ∧ x.length ≤ 4000 ∧ Good H ∧ ∀ H' : Hp, Same H H' → Q (.bl true) H'
theorem ok_shown_right (T : Txt K mg base) : FnOk P w K mg base CX0 (10 + 1) T.f_shown_right T.fd_shown_right ["letters", "word"] (sp_shown_right K) := by
  refine T.F_shown_right.ok sc_shown_right (fun vs H Q E h => ?_) (fun cdv A outer s H vs Q E hr h => ?_)
  · obtain ⟨z, x, rfl, _⟩ := h
    rfl
  · obtain ⟨z, x, rfl, az, ox, lx, good, q⟩ := h
    refine ⟨_, (pss_cons (ps_set (i := 2) sc_shown_right.nd rfl (.inl rfl) (pe_call (ok_show_word T) (hr.mono (by first | decide | exact Nat.le_refl _)) (by rfl) T.g_show_word T.F_show_word.kp T.b_show_word .nil pass0 (pa_cons (pv 1) pa_nil)))
      (pss_cons (ps_if (pt_cmpR op_eq (pv 1) pe_str (nomark _)) (pss_one (ps_ret (pe_and (pe_call (ok_same T) (hr.mono (by first | decide | exact Nat.le_refl _)) (by rfl) T.g_same T.F_same.kp T.b_same .nil pass0 (pa_cons (pv 2) (pa_cons pe_str pa_nil))) (pe_one (pe_call (ok_same T) (hr.mono (by first | decide | exact Nat.le_refl _)) (by rfl) T.g_same T.F_same.kp T.b_same .nil pass0 (pa_cons (pe_call (ok_read_shown T) (hr.mono (by first | decide | exact Nat.le_refl _)) (by rfl) T.g_read_shown T.F_read_shown.kp T.b_read_shown .nil passL (pa_cons (pv 0) (pa_cons (pv 2) pa_nil))) (pa_cons pe_str pa_nil))))))) pss_nil)
      (pss_one (ps_ret (pe_and (pe_call (ok_same T) (hr.mono (by first | decide | exact Nat.le_refl _)) (by rfl) T.g_same T.F_same.kp T.b_same .nil pass0 (pa_cons (pv 2) (pa_cons (pv 1) pa_nil))) (pe_one (pe_call (ok_same T) (hr.mono (by first | decide | exact Nat.le_refl _)) (by rfl) T.g_same T.F_same.kp T.b_same .nil pass0 (pa_cons (pe_call (ok_read_shown T) (hr.mono (by first | decide | exact Nat.le_refl _)) (by rfl) T.g_read_shown T.F_read_shown.kp T.b_read_shown .nil passL (pa_cons (pv 0) (pa_cons (pv 2) pa_nil))) (pa_cons (pv 1) pa_nil))))))))), ?_⟩
    have al : AlphaV (.str z) := ⟨z, rfl, az⟩
    have sz : Shal H (.str z) := shal_str az.small
    have nd : V.str x ≠ .str (Str.ofString "-") := fun e => by
      have e' := V.str.inj e
      subst e'
      have := (az.low 45 (ox 45 (by decide))).1
      omega
    refine ⟨_, rfl, x, rfl, by omega, fun ne => ?_, fun e => ?_⟩
    · have ne' : V.str x ≠ .str (Str.ofString "") := fun e => ne (V.str.inj e)
      refine ⟨_, rfl, rfl, _, rfl, iteN (decide_eq_false ne') ?_⟩
      refine ⟨_, rfl, _, rfl, _, _, rfl, same_str, _, rfl, iteC rfl ?_⟩
      refine ⟨_, rfl, _, rfl, .str z, .str x, rfl, sz, shal_str (by omega), good, fun n => (n al).elim, fun _ e => (nd e).elim, fun _ _ _ _ H1 s1 => ?_, fun _ _ n => ?_⟩
      · exact ⟨_, rfl, _, _, rfl, same_str, q H1 s1⟩
      · exact (n.elim (fun n => n ⟨z, x, rfl, rfl, az, ox, lx⟩) ne').elim
    · subst e
      refine ⟨_, rfl, rfl, _, rfl, iteC rfl ?_⟩
      refine ⟨_, rfl, _, _, rfl, same_str, _, rfl, iteC rfl ?_⟩
      refine ⟨_, rfl, _, rfl, .str z, .str (Str.ofString "-"), rfl, sz, shal_str (by decide), good, fun n => (n al).elim, fun _ _ H1 s1 => ?_, fun _ n => (n rfl).elim, fun _ n => (n rfl).elim⟩
      exact ⟨_, _, rfl, same_str, q H1 s1⟩

def sp_before (_ : PySem.W.Frag) : Sp := fun vs H Q _ => ∃ x y : Str, vs = [.str x, .str y] ∧ x.length ≤ 1000000 ∧ y.length ≤ 1000000 ∧ (SetQ.Bef x y → Q (.bl true) H) ∧ (¬ SetQ.Bef x y → Q (.bl false) H)
theorem ok_before (T : Txt K mg base) : FnOk P w K mg base CX0 (0 + 1) T.f_before T.fd_before ["one", "two"] (sp_before K) := by
  refine T.F_before.ok sc_before (fun vs H Q E h => ?_) (fun cdv A outer s H vs Q E hr h => ?_)
  · obtain ⟨x, y, rfl, _⟩ := h
    rfl
  · obtain ⟨x, y, rfl, lx, ly, q1, q2⟩ := h
    refine ⟨_, (pss_one (ps_ret (pe_or (pe_cmpR op_lt (pe_callB call_len_str (by rfl) T.z_len PySem.boot_len (pa_cons (pv 0) pa_nil)) (pe_callB call_len_str (by rfl) T.z_len PySem.boot_len (pa_cons (pv 1) pa_nil)) (nomark _)) (pe_one (pe_and (pe_cmpR op_eq (pe_callB call_len_str (by rfl) T.z_len PySem.boot_len (pa_cons (pv 0) pa_nil)) (pe_callB call_len_str (by rfl) T.z_len PySem.boot_len (pa_cons (pv 1) pa_nil)) (nomark _)) (pe_one (pe_cmpR op_lt_str (pv 0) (pv 1) (nomark _)))))))), ?_⟩
    refine ⟨_, rfl, x, rfl, small_text lx, _, rfl, y, rfl, small_text ly, _, _, rfl, rfl, _, rfl, ite2 (fun g => ?_) (fun g => ?_)⟩
    · exact q1 (.inl (by have := of_decide_eq_true g; omega))
    have g1 : ¬ x.length < y.length := fun z => g (decide_eq_true (by omega))
    refine ⟨_, rfl, x, rfl, small_text lx, _, rfl, y, rfl, small_text ly, rfl, _, rfl, ite2 (fun g2 => ?_) (fun g2 => ?_)⟩
    · have e : x.length = y.length := by
        have := V.int.inj (of_decide_eq_true g2)
        omega
      refine ⟨_, rfl, _, rfl, _, _, rfl, rfl, ?_⟩
      by_cases z : x.cps.toList < y.cps.toList
      · rw [decide_eq_true z]
        exact q1 (.inr ⟨e, z⟩)
      · rw [decide_eq_false z]
        exact q2 fun b => b.elim g1 fun q => z q.2
    · refine q2 fun b => b.elim g1 fun q => g2 (decide_eq_true ?_)
      rw [q.1]

def sp_word_key (_ : PySem.W.Frag) : Sp := fun vs H Q _ => ∃ x : Str, vs = [.str x] ∧ x.length ≤ 1000000 ∧ ∀ (p : Addr) (H' : Hp), Same H H' → H p = none → H' p = some (.tup [.int (x.length : Nat), .str x]) → Q (.ref p) H'
theorem ok_word_key (T : Txt K mg base) : FnOk P w K mg base CX0 (0 + 1) T.f_word_key T.fd_word_key ["word"] (sp_word_key K) := by
  refine T.F_word_key.ok sc_word_key (fun vs H Q E h => ?_) (fun cdv A outer s H vs Q E hr h => ?_)
  · obtain ⟨x, rfl, _⟩ := h
    rfl
  · obtain ⟨x, rfl, sx, q⟩ := h
    refine ⟨_, (pss_one (ps_ret (pe_tup (pa_cons (pe_callB call_len_str (by rfl) T.z_len PySem.boot_len (pa_cons (pv 0) pa_nil)) (pa_cons (pv 0) pa_nil))))), ?_⟩
    exact ⟨_, rfl, x, rfl, small_text sx, _, rfl, by show 2 ≤ sizeLine; decide, fun p np => q p _ (same_new np) np upd_same⟩

def sp_first_word (_ : PySem.W.Frag) : Sp := fun vs H Q _ => ∃ (a : Addr) (xs : List Str), vs = [.ref a] ∧ H a = some (.lst (xs.map V.str)) ∧ (∀ x ∈ xs, x.length ≤ 1000000) ∧
  (xs = [] → Q .non H) ∧ ∀ x ∈ xs, (∀ y ∈ xs, MinQ.kLt y x = false) → Q (.str x) H
theorem ok_first_word (T : Txt K mg base) : FnOk P w K mg base CX0 (2 + 1) T.f_first_word T.fd_first_word ["words"] (sp_first_word K) := by
  refine T.F_first_word.ok sc_first_word (fun vs H Q E h => ?_) (fun cdv A outer s H vs Q E hr h => ?_)
  · obtain ⟨a, xs, rfl, _⟩ := h
    rfl
  · obtain ⟨a, xs, rfl, ha, lx, q0, q1⟩ := h
    refine ⟨_, (pss_one (ps_ret (pe_callBK (MinQ.cr_minKey ((ok_word_key T).imp fun vs H Q E ⟨x, e, l, q⟩ => ⟨x, e, l, fun p H' _ _ h => q p H' h⟩) T.b_word_key (hr.mono (by first | decide | exact Nat.le_refl _))) (by rfl) T.z_min (by decide +kernel) (pa_cons (pv 0) pa_nil) (pk_cons (pe_glob (v := .ref T.f_word_key) (by rfl) T.g_word_key rfl) (pk_cons pe_non pk_nil))))), ?_⟩
    exact ⟨_, rfl, a, xs, rfl, rfl, .inl (.inl ha), lx, q0, q1⟩

def sp_sort_words [Tabl] (_ : PySem.W.Frag) : Sp := fun vs H Q _ => ∃ (a : Addr) (xs : List Str), vs = [.ref a] ∧ H a = some (.lst (xs.map V.str)) ∧ xs.length < 64 ∧ (∀ x ∈ xs, x.length ≤ 1000000) ∧
  ∀ (ws : List Str) (p : Addr) (H' : Hp), ws.Pairwise SetQ.Bef → (∀ y, y ∈ ws ↔ y ∈ xs) → ws.length ≤ xs.length → Same H H' → H p = none → H' p = some (.lst (ws.map V.str)) → Q (.ref p) H'
theorem ok_sort_words (T : Txt K mg base) : FnOk P w K mg base CX0 (0 + 1) T.f_sort_words T.fd_sort_words ["words"] (sp_sort_words K) := by
  refine T.F_sort_words.ok sc_sort_words (fun vs H Q E h => ?_) (fun cdv A outer s H vs Q E hr h => ?_)
  · obtain ⟨a, xs, rfl, _⟩ := h
    rfl
  · obtain ⟨a, xs, rfl, ha, len, lx, q⟩ := h
    refine ⟨_, (pss_one (ps_ret (SetQ.pe_sortLen hr.units (by rfl) T.z_sorted (by rfl) T.z_len (pa_cons (pe_callB (SetQ.cr_sortedTx rfl) (by rfl) T.z_sorted (by decide +kernel) (pa_cons (pe_callTy (SetQ.cr_setL rfl) (by rfl) T.z_set (by decide +kernel) (pa_cons (pv 0) pa_nil)) pa_nil)) pa_nil)))), ?_⟩
    refine ⟨_, rfl, a, xs, rfl, .inl (.inl ha), len, fun p m np nd mem le => ?_⟩
    have k1 := same_new (o := SetQ.SetTx P w p m) np
    refine ⟨p, m, rfl, upd_same, nd, Nat.lt_of_le_of_lt le len, fun ws t srt perm nt => ?_⟩
    have k2 := same_new (o := .lst (ws.map V.str)) nt
    have lw : ∀ x ∈ ws, x.length ≤ 1000000 := fun x hx => lx x ((mem x).mp (perm.mem_iff.mp hx))
    refine ⟨t, ws, rfl, .inl (.inl upd_same), fun x hx => small_text (lw x hx), fun l nl => ?_⟩
    have k3 := same_new (o := .lst ((SetQ.lenSort ws).map V.str)) nl
    have pl := SetQ.lenSort_perm ws
    refine q (SetQ.lenSort ws) l _ (SetQ.lenSort_bef srt (perm.nodup_iff.mpr nd)) (fun y => ?_) ?_ (k1.trans (k2.trans k3)) (k1.free (k2.free nl)) upd_same
    · rw [pl.mem_iff, perm.mem_iff, mem]
    · rw [pl.length_eq, perm.length_eq]
      exact le

def sp_sorted_right [Tabl] (_ : PySem.W.Frag) : Sp := fun vs H Q _ => ∃ (a : Addr) (xs : List Str), vs = [.ref a] ∧ H a = some (.lst (xs.map V.str)) ∧ xs.length < 64 ∧ (∀ x ∈ xs, x.length ≤ 1000000) ∧ ∀ H' : Hp, Same H H' → Q (.bl true) H'
theorem ok_sorted_right (T : Txt K mg base) : FnOk P w K mg base CX0 (10 + 1) T.f_sorted_right T.fd_sorted_right ["words"] (sp_sorted_right K) := by
  refine T.F_sorted_right.ok sc_sorted_right (fun vs H Q E h => ?_) (fun cdv A outer s H vs Q E hr h => ?_)
  · obtain ⟨a, xs, rfl, _⟩ := h
    rfl
  · obtain ⟨a, xs, rfl, ha, len, lx, q⟩ := h
    refine ⟨_, (pss_cons (ps_set (i := 1) sc_sorted_right.nd rfl (.inr rfl) (pe_callTy call_list_of (by rfl) T.z_list (by decide +kernel) (pa_cons (pv 0) pa_nil)))
      (pss_cons (ps_set (i := 2) sc_sorted_right.nd rfl (.inr rfl) (pe_call (ok_sort_words T) (hr.mono (by first | decide | exact Nat.le_refl _)) (by rfl) T.g_sort_words T.F_sort_words.kp T.b_sort_words .nil pass0 (pa_cons (pv 0) pa_nil)))
      (pss_cons (ps_if (PW.pt (pw_or (pt_not (pt_val (pe_call (ok_list_of_words T) (hr.mono (by first | decide | exact Nat.le_refl _)) (by rfl) T.g_list_of_words T.F_list_of_words.kp T.b_list_of_words .nil pass0 (pa_cons (pv 2) pa_nil)))) (pw_or1 (pt_not (pt_val (pe_call (ok_same T) (hr.mono (by first | decide | exact Nat.le_refl _)) (by rfl) T.g_same T.F_same.kp T.b_same .nil pass0 (pa_cons (pv 0) (pa_cons (pv 1) pa_nil)))))))) (pss_one (ps_ret pe_bl)) pss_nil)
      (pss_cons (ps_for PassesOwn.never rfl (pi_range1 (by rfl) T.z_range (pa_cons (pe_op op_sub (pe_callB call_len_seq (by rfl) T.z_len PySem.boot_len (pa_cons (pv 2) pa_nil)) pe_int) pa_nil)) (pg_name (i := 3) sc_sorted_right.nd rfl (.inl rfl)) (pss_one (ps_if (pt_not (pt_val (pe_call (ok_before T) (hr.mono (by first | decide | exact Nat.le_refl _)) (by rfl) T.g_before T.F_before.kp T.b_before .nil pass0 (pa_cons (pe_ix ix_list (pv 2) (pv 3) (fun _ _ => rfl)) (pa_cons (pe_ix ix_list (pv 2) (pe_op op_add (pv 3) pe_int) (fun _ _ => rfl)) pa_nil))))) (pss_one (ps_ret pe_bl)) pss_nil)))
      (pss_cons (ps_if (pt_cmpR op_gt (pe_op op_add (pe_callB call_len_seq (by rfl) T.z_len PySem.boot_len (pa_cons (pe_lc (own := [("x", 6)]) (g := gName 6) rfl sc_sorted_right.nd (pi_list (pv 2)) (blkOk_by (N := ["words", "kept", "row", "k", "head", "told", "x"]) (sc := defScope s_sorted_right) (by decide +kernel)) (fun _ _ _ _ _ => pg_name (i := 6) sc_sorted_right.nd rfl (Or.inl rfl)) (fun _ _ _ _ _ => (pts_one (pt_cmpR (op_notIn_seqK K rfl) (pv 6) (pv 1) rfl))) (fun _ _ _ _ _ => (pv 6))) pa_nil)) (pe_callB call_len_seq (by rfl) T.z_len PySem.boot_len (pa_cons (pe_lc (own := [("x", 6)]) (g := gName 6) rfl sc_sorted_right.nd (pi_list (pv 1)) (blkOk_by (N := ["words", "kept", "row", "k", "head", "told", "x"]) (sc := defScope s_sorted_right) (by decide +kernel)) (fun _ _ _ _ _ => pg_name (i := 6) sc_sorted_right.nd rfl (Or.inl rfl)) (fun _ _ _ _ _ => (pts_one (pt_cmpR (op_notIn_seqK K rfl) (pv 6) (pv 2) rfl))) (fun _ _ _ _ _ => (pv 6))) pa_nil))) pe_int (nomark _)) (pss_one (ps_ret pe_bl)) pss_nil)
      (pss_cons (ps_set (i := 4) sc_sorted_right.nd rfl (.inl rfl) (pe_call (ok_first_word T) (hr.mono (by first | decide | exact Nat.le_refl _)) (by rfl) T.g_first_word T.F_first_word.kp T.b_first_word .nil pass0 (pa_cons (pv 0) pa_nil)))
      (pss_cons (ps_if (PW.pt (pw_or (PW.pt (pw_and (pt_truth (pv 1) (by intro _; rfl)) (pw_and1 (pt_not (pt_val (pe_call (ok_same T) (hr.mono (by first | decide | exact Nat.le_refl _)) (by rfl) T.g_same T.F_same.kp T.b_same .nil pass0 (pa_cons (pv 4) (pa_cons (pe_ix ix_list (pv 2) pe_int (fun _ _ => rfl)) pa_nil)))))))) (pw_or1 (PW.pt (pw_and (pt_not (pt_truth (pv 1) (by intro _; rfl))) (pw_and1 (pt_cmpR op_notN (pv 4) pe_non (nomark _)))))))) (pss_one (ps_ret pe_bl)) pss_nil)
      (pss_cons (ps_set (i := 5) sc_sorted_right.nd rfl (.inl rfl) (pe_callTy call_list_of (by rfl) T.z_list (by decide +kernel) (pa_cons (pv 2) pa_nil)))
      (pss_cons (ps_expr (pe_call (ok_wreck T) (hr.mono (by first | decide | exact Nat.le_refl _)) (by rfl) T.g_wreck T.F_wreck.kp T.b_wreck .nil pass0 (pa_cons (pv 2) pa_nil)))
      (pss_cons (ps_if (PW.pt (pw_or (pt_not (pt_val (pe_call (ok_same T) (hr.mono (by first | decide | exact Nat.le_refl _)) (by rfl) T.g_same T.F_same.kp T.b_same .nil pass0 (pa_cons (pv 0) (pa_cons (pv 1) pa_nil))))) (pw_or1 (pt_not (pt_val (pe_call (ok_same T) (hr.mono (by first | decide | exact Nat.le_refl _)) (by rfl) T.g_same T.F_same.kp T.b_same .nil pass0 (pa_cons (pe_call (ok_sort_words T) (hr.mono (by first | decide | exact Nat.le_refl _)) (by rfl) T.g_sort_words T.F_sort_words.kp T.b_sort_words .nil pass0 (pa_cons (pv 0) pa_nil)) (pa_cons (pv 5) pa_nil)))))))) (pss_one (ps_ret pe_bl)) pss_nil)
      (pss_one (ps_ret (pe_call (ok_same T) (hr.mono (by first | decide | exact Nat.le_refl _)) (by rfl) T.g_same T.F_same.kp T.b_same .nil pass0 (pa_cons (pe_call (ok_first_word T) (hr.mono (by first | decide | exact Nat.le_refl _)) (by rfl) T.g_first_word T.F_first_word.kp T.b_first_word .nil pass0 (pa_cons (pe_callTy call_list_of (by rfl) T.z_list (by decide +kernel) (pa_cons (pv 5) pa_nil)) pa_nil)) (pa_cons (pv 4) pa_nil))))))))))))))), ?_⟩
    have len6 : xs.length ≤ 1000000 := by omega
    -- kept
    refine ⟨_, rfl, a, _, rfl, .inl (.inl (.inl ha)), fun kp nk => ?_⟩
    have k1 := same_new (o := .lst (xs.map V.str)) nk
    have hk1 : (upd H kp (.lst (xs.map V.str))) kp = some (.lst (xs.map V.str)) := upd_same
    have ha1 := k1 _ _ ha
    generalize upd H kp (.lst (xs.map V.str)) = H1 at k1 hk1 ha1 ⊢
    -- row
    refine ⟨_, rfl, a, xs, rfl, ha1, len, lx, fun ws r H2 pw mem le s2 nr hr2 => ?_⟩
    have ra : r ≠ a := fun e => by rw [e, ha1] at nr; cases nr
    have rk : r ≠ kp := fun e => by rw [e, hk1] at nr; cases nr
    have ha2 := s2 _ _ ha1
    have hk2 := s2 _ _ hk1
    have lw : ∀ x ∈ ws, x.length ≤ 1000000 := fun x h => lx x ((mem x).mp h)
    have lenw : ws.length ≤ 1000000 := by omega
    refine ⟨_, rfl, r, ws, rfl, hr2, fun H3 s3 => ⟨_, rfl, iteN rfl ⟨_, rfl, _, rfl, _, _, rfl, same_strs (s3 _ _ ha2) (s3 _ _ hk2) len6, _, rfl, iteN rfl ?_⟩⟩⟩
    have ha3 := s3 _ _ ha2
    have hk3 := s3 _ _ hk2
    have hr3 := s3 _ _ hr2
    have atR : ∀ (i : Nat) (h : i < ws.length), (ws.map V.str)[i]? = some (.str ws[i]) := fun i h => by
      rw [List.getElem?_map, List.getElem?_eq_getElem h]
      rfl
    have lm : (ws.map V.str).length = ws.length := List.length_map ..
    -- in order
    refine ⟨_, rfl, _, _, rfl, .inl (.inl (.inl hr3)), _, _, rfl, rfl, _, rfl, by rw [lm]; omega, by rw [lm]; omega, ?_⟩
    refine for_range (lo := 0) (n := (((ws.map V.str).length : Int) - 1).toNat) (fun i σ H' => (∃ y : Option V, σ = [some (.ref a), some (.ref kp), some (.ref r), y, none, none, none]) ∧ H' = H3) ⟨⟨none, rfl⟩, rfl⟩ ?_ ?_
    · rintro i σ H' hi ⟨⟨y, rfl⟩, rfl⟩
      have hi1 : i + 1 < ws.length := by
        have : i < (((ws.map V.str).length : Int) - 1).toNat := hi
        rw [lm] at this
        omega
      refine ⟨_, rfl, _, rfl, _, _, _, _, rfl, rfl, .inl (.inl hr3), (by rw [Int.zero_add]; exact atI_nat (atR i (by omega))), _, rfl, _, rfl, _, _, rfl, rfl, _, _, _, _, rfl, rfl, .inl (.inl hr3), (by rw [show (0 : Int) + (i : Int) + 1 = ((i + 1 : Nat) : Int) by omega]; exact atI_nat (atR (i + 1) hi1)), ?_⟩
      refine ⟨_, _, rfl, lw _ (List.getElem_mem _), lw _ (List.getElem_mem _), fun _ => ⟨_, rfl, iteN rfl ⟨⟨_, rfl⟩, rfl⟩⟩, fun n => (n ?_).elim⟩
      exact List.pairwise_iff_getElem.mp pw i (i + 1) (by omega) hi1 (Nat.lt_succ_self i)
    rintro σ H3' ⟨⟨y, rfl⟩, rfl⟩
    -- the same words
    dsimp only
    refine skip_seq (fun H' => Same H3' H') (fun Q' q' => ?_) (fun H4 s4 => ?_)
    · refine ⟨_, rfl, r, rfl, ⟨_, .inl (.inl hr3)⟩, fun D nD => lc_list (K := K) (a := r) (xs := ws.map V.str) (fun i H' => Same H3' H' ∧ H' D = some (.lst [])) ⟨same_new nD, upd_same⟩ (fun i H' _ h => .inl (.inl (h.1 _ _ hr3))) ?_ ?_⟩
      · rintro i v H4 hv ⟨s4, hD⟩
        obtain ⟨x, hx, rfl⟩ := List.mem_map.mp (List.mem_of_getElem? hv)
        refine ⟨rfl, _, rfl, _, rfl, kp, _, rfl, .inl (.inl (.inl (s4 _ _ hk3))), rfl, flat_strs xs, _, rfl, iteN ?_ ⟨s4, hD⟩⟩
        rw [in_strs ((mem x).mp hx)]
        rfl
      · rintro H4 ⟨s4, hD⟩
        refine ⟨D, _, rfl, .inl (.inl (.inl hD)), ?_⟩
        have hr4 := s4 _ _ hr3
        have hk4 := s4 _ _ hk3
        refine ⟨_, rfl, kp, rfl, ⟨_, .inl (.inl hk4)⟩, fun D2 nD2 => lc_list (K := K) (a := kp) (xs := xs.map V.str) (fun i H' => Same H4 H' ∧ H' D2 = some (.lst [])) ⟨same_new nD2, upd_same⟩ (fun i H' _ h => .inl (.inl (h.1 _ _ hk4))) ?_ ?_⟩
        · rintro i v H5 hv ⟨s5, hD5⟩
          obtain ⟨x, hx, rfl⟩ := List.mem_map.mp (List.mem_of_getElem? hv)
          refine ⟨rfl, _, rfl, _, rfl, r, _, rfl, .inl (.inl (.inl (s5 _ _ hr4))), rfl, flat_strs ws, _, rfl, iteN ?_ ⟨s5, hD5⟩⟩
          rw [in_strs ((mem x).mpr hx)]
          rfl
        · rintro H5 ⟨s5, hD5⟩
          exact ⟨D2, _, rfl, .inl (.inl (.inl hD5)), _, _, rfl, rfl, _, _, rfl, rfl, _, rfl, q' _ (s4.trans s5)⟩
    have ha4 := s4 _ _ ha3
    have hk4 := s4 _ _ hk3
    have hr4 := s4 _ _ hr3
    have sm4 : Same H H4 := ((k1.trans s2).trans s3).trans s4
    -- the head
    refine lift_asg (fun v H' => H4 = H' ∧ ((xs = [] ∧ v = .non) ∨ ∃ x ∈ xs, (∀ y ∈ xs, MinQ.kLt y x = false) ∧ v = .str x)) (fun Qx qx => ⟨_, rfl, a, xs, rfl, ha4, lx, fun e => qx _ _ ⟨rfl, .inl ⟨e, rfl⟩⟩, fun x mx least => qx _ _ ⟨rfl, .inr ⟨x, mx, least, rfl⟩⟩⟩) ?_
    rintro hd _ ⟨rfl, hh⟩
    refine asg_go ?_
    refine skip_seq (fun H' => H4 = H') (fun Q' q' => ?_) ?_
    · rcases hh with ⟨e, rfl⟩ | ⟨x, mx, least, rfl⟩
      · subst e
        exact ⟨_, rfl, false, .inl ⟨_, .inl (.inl hk4), rfl⟩, iteF ⟨_, rfl, false, .inl ⟨_, .inl (.inl hk4), rfl⟩, iteT ⟨_, rfl, rfl, _, rfl, q' _ rfl⟩⟩⟩
      · have nx : xs ≠ [] := fun e => by rw [e] at mx; cases mx
        have mw := (mem x).mpr mx
        have wl : 0 < ws.length := List.length_pos_of_mem mw
        have ex : x = ws[0] := head_least pw mw (List.getElem?_eq_getElem wl) fun y hy => least y ((mem y).mp hy)
        have em : (!(xs.map V.str).isEmpty) = true := by
          cases xs with
          | nil => exact (nx rfl).elim
          | cons _ _ => rfl
        refine ⟨_, rfl, true, .inl ⟨_, .inl (.inl hk4), em.symm⟩, iteT ⟨_, rfl, _, rfl, _, _, _, _, rfl, rfl, .inl (.inl hr4), atI_nat (j := 0) (atR 0 wl), _, _, rfl, by rw [ex]; exact same_str, _, rfl, iteF ?_⟩⟩
        exact ⟨_, rfl, true, .inl ⟨_, .inl (.inl hk4), em.symm⟩, iteF (q' _ rfl)⟩
    rintro _ rfl
    -- told
    refine ⟨_, rfl, r, _, rfl, .inl (.inl (.inl hr4)), fun tl nt => ?_⟩
    have k5 := same_new (o := .lst (ws.map V.str)) nt
    have hr5 := k5 _ _ hr4
    have ha5 := k5 _ _ ha4
    have hk5 := k5 _ _ hk4
    have ht5 : (upd H4 tl (.lst (ws.map V.str))) tl = some (.lst (ws.map V.str)) := upd_same
    have tr : tl ≠ r := fun e => by rw [e, hr4] at nt; cases nt
    generalize upd H4 tl (.lst (ws.map V.str)) = H5 at k5 hr5 ha5 hk5 ht5 ⊢
    refine ⟨_, rfl, r, ws, rfl, hr5, lenw, fun H6 H7 s6 hr6 e7 => ?_⟩
    have sm7 : Same H H7 := by
      rw [e7]
      exact Same.grown k1 nr ((sm4.trans k5).trans s6) hr6
    have ha7 : H7 a = some (.lst (xs.map V.str)) := by rw [e7, upd_ne (Ne.symm ra)]; exact s6 _ _ ha5
    have hk7 : H7 kp = some (.lst (xs.map V.str)) := by rw [e7, upd_ne (Ne.symm rk)]; exact s6 _ _ hk5
    have ht7 : H7 tl = some (.lst (ws.map V.str)) := by rw [e7, upd_ne tr]; exact s6 _ _ ht5
    refine ⟨_, rfl, _, rfl, _, _, rfl, same_strs ha7 hk7 len6, _, rfl, iteN rfl ?_⟩
    refine ⟨_, rfl, a, xs, rfl, ha7, len, lx, fun us r2 H8 pu mu lu s8 nr2 hr8 => ?_⟩
    have eu : us = ws := bef_unique pu pw fun y => (mu y).trans (mem y).symm
    subst eu
    have ht8 := s8 _ _ ht7
    refine ⟨_, rfl, _, _, rfl, same_strs hr8 ht8 lenw, _, rfl, iteN rfl ?_⟩
    refine ⟨_, rfl, tl, _, rfl, .inl (.inl (.inl ht8)), fun t2 nt2 => ?_⟩
    have k9 := same_new (o := .lst (us.map V.str)) nt2
    have h29 : (upd H8 t2 (.lst (us.map V.str))) t2 = some (.lst (us.map V.str)) := upd_same
    have fin := q _ ((sm7.trans s8).trans k9)
    refine ⟨t2, us, rfl, h29, lw, fun e => ?_, fun x' mx' least' => ?_⟩
    · rcases hh with ⟨_, rfl⟩ | ⟨x, mx, _, rfl⟩
      · exact ⟨_, rfl, _, _, rfl, .inl ⟨rfl, rfl⟩, fin⟩
      · have := (mem x).mpr mx
        rw [e] at this
        cases this
    · rcases hh with ⟨e, rfl⟩ | ⟨x, mx, least, rfl⟩
      · have := (mem x').mp mx'
        rw [e] at this
        cases this
      · have wl : 0 < us.length := List.length_pos_of_mem mx'
        have e1 := head_least pw mx' (List.getElem?_eq_getElem wl) least'
        have e2 := head_least pw ((mem x).mpr mx) (List.getElem?_eq_getElem wl) fun y hy => least y ((mem y).mp hy)
        exact ⟨_, rfl, _, _, rfl, by rw [e1, e2]; exact same_str, fin⟩

def sp_store (K : PySem.W.Frag) : Sp := fun vs H Q _ => ∃ (a : Addr) (ns : List Int), vs = [.ref a] ∧ SqL K H a (ns.map V.int) ∧ ns.length ≤ 63 ∧
  ∀ (p ca : Addr) (H' : Hp), Same H H' → H p = none → Sto H' p ca → Q (.ref p) H'
theorem ok_store (T : Txt K mg base) : FnOk P w K mg base CX0 (0 + 1) T.f_store T.fd_store ["script"] (sp_store K) := by
  refine T.F_store.ok sc_store (fun vs H Q E h => ?_) (fun cdv A outer s H vs Q E hr h => ?_)
  · obtain ⟨a, ns, rfl, _⟩ := h
    rfl
  · obtain ⟨a, ns, rfl, hS, hl, q⟩ := h
    refine ⟨_, (pss_cons (ps_set (i := 1) sc_store.nd rfl (.inl rfl) pe_int)
      (pss_cons (ps_for PassesOwn.never rfl (pi_list (pv 0)) (pg_name (i := 2) sc_store.nd rfl (.inl rfl)) (pss_one (ps_set (i := 1) sc_store.nd rfl (.inl rfl) (pe_op op_mod (pe_callTy call_int1 (by rfl) T.z_int (by decide +kernel) (pa_cons (pe_op op_add (pe_op op_add (pe_op op_mul (pv 1) pe_int) (pe_op op_mod (pe_callTy call_int1 (by rfl) T.z_int (by decide +kernel) (pa_cons (pv 2) pa_nil)) pe_int)) pe_int) pa_nil)) pe_int))))
      (pss_one (ps_ret (pe_lst (pa_cons (pe_callTy call_list_of (by rfl) T.z_list (by decide +kernel) (pa_cons (pv 0) pa_nil)) (pa_cons pe_int (pa_cons pe_int (pa_cons pe_int (pa_cons (pv 1) pa_nil)))))))))), ?_⟩
    -- seed = 17, the loop
    refine ⟨.ref a, rfl, a, rfl, ⟨_, hS⟩, for_list (K := K) (a := a) (xs := ns.map V.int) (fun i σ H' => ∃ (z : Int) (y : Option V), σ = [some (.ref a), some (.int z), y] ∧ H' = H)
      ⟨17, none, rfl, rfl⟩ (fun i σ H' _ ⟨_, _, _, e⟩ => by rw [e]; exact hS) ?_ ?_⟩
    · rintro i y σ H' hi ⟨z, y0, rfl, rfl⟩
      obtain ⟨n, hn, rfl⟩ : ∃ n, ns[i]? = some n ∧ y = V.int n := by
        rw [List.getElem?_map] at hi
        cases e : ns[i]? with
        | none =>
          rw [e] at hi
          cases hi
        | some n =>
          rw [e] at hi
          exact ⟨n, rfl, (Option.some.inj hi).symm⟩
      exact ⟨_, rfl, _, _, rfl, rfl, .inr ⟨by decide, by decide⟩, _, rfl, .inl ⟨_, rfl, _, _, rfl, rfl, (by show (0 : Int) < 1000003; decide), _, _, rfl, rfl, _, _, rfl, rfl, .inl ⟨_, rfl, _, _, rfl, rfl, (by show (0 : Int) < 2147483647; decide), _, _, rfl, rfl⟩⟩⟩
    · rintro σ H' ⟨z, y0, rfl, rfl⟩
      refine ⟨.ref a, rfl, a, _, rfl, .inl hS, fun c nc => ⟨_, rfl, by show 5 ≤ sizeLine; decide, fun p np => ?_⟩⟩
      have s1 : Same H' (upd H' c (.lst (ns.map V.int))) := same_new nc
      have s2 : Same (upd H' c (.lst (ns.map V.int))) (upd (upd H' c (.lst (ns.map V.int))) p (.lst [.ref c, .int 0, .int 0, .int 0, .int z])) := same_new np
      have ncp : c ≠ p := fun e => by
        rw [← e, upd_same] at np
        cases np
      refine q p c _ (s1.trans s2) (s1.free np) ⟨ns, 0, 0, 0, z, upd_same, ?_, Int.le_refl 0, ncp⟩
      rw [upd_ne ncp, upd_same]

/-- the numbers below n in some order -/
def natV (ps : List Nat) : List V := ps.map fun i => V.int ((i : Nat) : Int)
theorem rg_nat (n : Nat) : rgV 0 (n : Int) = natV (List.range n) := by
  unfold rgV natV
  rw [Int.sub_zero, Int.toNat_natCast]
  exact List.map_congr_left fun i _ => by rw [Int.zero_add]
def sp_order (_ : PySem.W.Frag) : Sp := fun vs H Q _ => ∃ (a ca : Addr) (n : Nat), vs = [.ref a, .int (n : Int)] ∧ Sto H a ca ∧ n ≤ 1000 ∧
  ∀ (ps : List Nat) (p : Addr) (H' : Hp), ps.Perm (List.range n) → But a H H' → Sto H' a ca → H p = none → p ≠ a → p ≠ ca → H' p = some (.lst (natV ps)) → Q (.ref p) H'
theorem ok_order (T : Txt K mg base) : FnOk P w K mg base CX0 (2 + 1) T.f_order T.fd_order ["store", "size"] (sp_order K) := by
  refine T.F_order.ok sc_order (fun vs H Q E h => ?_) (fun cdv A outer s H vs Q E hr h => ?_)
  · obtain ⟨a, ca, n, rfl, _⟩ := h
    rfl
  · obtain ⟨a, ca, n, rfl, S, hn, q⟩ := h
    refine ⟨_, (pss_cons (ps_if (pt_cmpR op_eq (pe_call (ok_take T) (hr.mono (by first | decide | exact Nat.le_refl _)) (by rfl) T.g_take T.F_take.kp T.b_take .nil pass0 (pa_cons (pv 0) (pa_cons pe_int pa_nil))) pe_int (nomark _)) (pss_one (ps_ret (pe_listRg rfl (by rfl) T.z_list (prg_1 (by rfl) T.z_range (pv 1))))) pss_nil)
      (pss_cons (ps_set (i := 2) sc_order.nd rfl (.inl rfl) (pe_listRg rfl (by rfl) T.z_list (prg_1 (by rfl) T.z_range (pv 1))))
      (pss_cons (ps_set (i := 3) sc_order.nd rfl (.inl rfl) (pe_lst pa_nil))
      (pss_cons (ps_for PassesOwn.never rfl (pi_range1 (by rfl) T.z_range (pa_cons (pv 1) pa_nil)) (pg_name (i := 4) sc_order.nd rfl (.inl rfl)) (pss_one (ps_expr (pe_bm PySem.F.plainAttrs_list PySem.F.slot_list_append PySem.F.type_list_append mt_append (pv 3) (pa_cons (pe_bm PySem.F.plainAttrs_list PySem.F.slot_list_pop PySem.F.type_list_pop mt_popAt (pv 2) (pa_cons (pe_call (ok_take T) (hr.mono (by first | decide | exact Nat.le_refl _)) (by rfl) T.g_take T.F_take.kp T.b_take .nil pass0 (pa_cons (pv 0) (pa_cons (pe_callB call_len_seq (by rfl) T.z_len PySem.boot_len (pa_cons (pv 2) pa_nil)) pa_nil))) pa_nil)) pa_nil)))))
      (pss_one (ps_ret (pv 3))))))), ?_⟩
    have rg : RgOk 0 (n : Int) := RgOk.of_le (by omega) (by omega) (by omega) (by omega)
    refine ⟨_, rfl, a, ca, 3, rfl, S, by decide, fun d H1 _ _ B1 S1 => ⟨rfl, _, rfl, ite2 (fun _ => ?_) (fun _ => ?_)⟩⟩
    · refine ⟨_, rfl, (n : Int), rfl, rg, fun p np => ?_⟩
      have k := same_new (o := .lst (rgV 0 (n : Int))) np
      have npa := S1.ne np
      exact q (List.range n) p _ (.refl _) (B1.trans (But.same k)) (S1.new np) (B1.free np npa.1) npa.1 npa.2 (by rw [upd_same, rg_nat])
    refine ⟨_, rfl, (n : Int), rfl, rg, fun l nl => ?_⟩
    have k1 := same_new (o := .lst (rgV 0 (n : Int))) nl
    have nla := S1.ne nl
    have hl : (upd H1 l (.lst (rgV 0 (n : Int)))) l = some (.lst (natV (List.range n))) := by rw [upd_same, rg_nat]
    have S2 := S1.new (o := .lst (rgV 0 (n : Int))) nl
    have B2 := B1.trans (But.same k1)
    generalize upd H1 l (.lst (rgV 0 (n : Int))) = H2 at k1 hl S2 B2 ⊢
    refine ⟨by show 0 ≤ sizeLine; decide, fun p np => ?_⟩
    have k2 := same_new (o := .lst []) np
    have npa := S2.ne np
    have pl : p ≠ l := fun e => by rw [e, hl] at np; cases np
    have S3 := S2.new (o := .lst []) np
    have B3 := B2.trans (But.same k2)
    have hp : (upd H2 p (.lst [])) p = some (.lst []) := upd_same
    have hl3 := k2 _ _ hl
    have np0 : H p = none := B2.free np npa.1
    have nl0 : H l = none := B1.free nl nla.1
    generalize upd H2 p (.lst []) = H3 at k2 S3 B3 hp hl3 ⊢
    refine ⟨_, rfl, (n : Int), rfl, by omega, by omega, ?_⟩
    refine for_range (lo := 0) (n := (n : Int).toNat) (fun i σ H' => ∃ (L R : List Nat) (y : Option V), σ = [some (.ref a), some (.int (n : Int)), some (.ref l), some (.ref p), y] ∧ (R ++ L).Perm (List.range n) ∧ R.length = i ∧ H' l = some (.lst (natV L)) ∧ H' p = some (.lst (natV R)) ∧ But a H H' ∧ Sto H' a ca)
      ⟨List.range n, [], none, rfl, .refl _, rfl, hl3, hp, B3, S3⟩ ?_ ?_
    · rintro i σ H4 hi ⟨L, R, y, rfl, perm, lr, hl4, hp4, B4, S4⟩
      have hi' : i < n := hi
      have lL : L.length = n - i := by
        have := perm.length_eq
        rw [List.length_append, List.length_range, lr] at this
        omega
      have len4 : (natV L).length = L.length := List.length_map ..
      have len5 : (natV R).length = R.length := List.length_map ..
      refine ⟨_, rfl, .inl ⟨rfl, _, .inl (.inl hp4)⟩, _, rfl, .inl ⟨rfl, _, .inl (.inl hl4)⟩, _, rfl, _, rfl, _, _, rfl, .inl (.inl (.inl hl4)), a, ca, _, rfl, S4, by rw [len4]; omega, fun d H5 d0 d1 B5 S5 => ?_⟩
      have hl5 := B5 _ _ nla.1 hl4
      have hp5 := B5 _ _ npa.1 hp4
      obtain ⟨j, rfl⟩ := Int.eq_ofNat_of_zero_le d0
      have hj : j < L.length := by
        rw [len4] at d1
        omega
      have ej : (natV L)[j]? = some (.int ((L[j] : Nat) : Int)) := by
        unfold natV
        rw [List.getElem?_map, List.getElem?_eq_getElem hj]
        rfl
      refine ⟨l, _, _, j, _, rfl, rfl, hl5, by omega, by omega, ?_, ej, ?_⟩
      · rw [PySem.seqIndex_of (by omega) (by rw [len4]; omega), Int.toNat_natCast]
      have er : (natV L).eraseIdx j = natV (L.eraseIdx j) := erase_map ..
      have hp6 : (upd H5 l (.lst ((natV L).eraseIdx j))) p = some (.lst (natV R)) := by
        rw [upd_ne pl]
        exact hp5
      refine ⟨p, _, _, rfl, rfl, hp6, by rw [len5]; exact Nat.lt_of_lt_of_le (by omega : R.length < 1000000) (by decide), L.eraseIdx j, R ++ [L[j]], _, rfl, ?_, by rw [List.length_append, lr]; rfl, ?_, ?_, ?_, ?_⟩
      · rw [List.append_assoc]
        exact (List.Perm.append_left R (erase_perm L j hj)).trans perm
      · rw [upd_ne (Ne.symm pl), upd_same, er]
      · rw [upd_same]
        unfold natV
        rw [List.map_append]
        rfl
      · exact B2.grown np (B1.grown nl (B4.trans B5) hl5) hp6
      · exact (S5.put nla).put npa
    · rintro σ H4 ⟨L, R, y, rfl, perm, lr, hl4, hp4, B4, S4⟩
      have lr' : R.length = n := lr
      have l0 : L = [] := by
        have := perm.length_eq
        rw [List.length_append, List.length_range, lr'] at this
        exact List.length_eq_zero_iff.mp (by omega)
      rw [l0, List.append_nil] at perm
      exact ⟨_, rfl, q R p H4 perm B4 S4 np0 npa.1 npa.2 hp4⟩

/-- the items in some order: a new list -/
def sp_turned (_ : PySem.W.Frag) : Sp := fun vs H Q _ => ∃ (a ca r : Addr) (xs : List V), vs = [.ref a, .ref r] ∧ Sto H a ca ∧ r ≠ a ∧ H r = some (.lst xs) ∧ xs.length ≤ 1000 ∧
  ∀ (ys : List V) (p : Addr) (H' : Hp), ys.Perm xs → But a H H' → Sto H' a ca → H p = none → p ≠ a → p ≠ ca → H' p = some (.lst ys) → Q (.ref p) H'
theorem ok_turned (T : Txt K mg base) : FnOk P w K mg base CX0 (3 + 1) T.f_turned T.fd_turned ["store", "row"] (sp_turned K) := by
  refine T.F_turned.ok sc_turned (fun vs H Q E h => ?_) (fun cdv A outer s H vs Q E hr h => ?_)
  · obtain ⟨a, ca, r, xs, rfl, _⟩ := h
    rfl
  · obtain ⟨a, ca, r, xs, rfl, S, ra, hr0, len, q⟩ := h
    refine ⟨_, (pss_one (ps_ret (pe_lc (own := [("k", 2)]) (g := gName 2) rfl sc_turned.nd (pi_list (pe_call (ok_order T) (hr.mono (by first | decide | exact Nat.le_refl _)) (by rfl) T.g_order T.F_order.kp T.b_order .nil pass0 (pa_cons (pv 0) (pa_cons (pe_callB call_len_seq (by rfl) T.z_len PySem.boot_len (pa_cons (pv 1) pa_nil)) pa_nil)))) (blkOk_by (N := ["store", "row", "k"]) (sc := defScope s_turned) (by decide +kernel)) (fun _ _ _ _ _ => pg_name (i := 2) sc_turned.nd rfl (Or.inl rfl)) (fun _ _ _ _ _ => pts_nil) (fun _ _ _ _ _ => (pe_ix (ix_listK K rfl) (pv 1) (pv 2) (fun _ _ => rfl)))))), ?_⟩
    refine ⟨_, rfl, _, rfl, _, _, rfl, .inl (.inl (.inl hr0)), a, ca, xs.length, rfl, S, len, fun ps l H1 perm B1 S1 nl la lca hl => ?_⟩
    refine ⟨l, rfl, ⟨_, .inl (.inl hl)⟩, fun D nD => ?_⟩
    have hr1 := B1 _ _ ra hr0
    have nDa := S1.ne nD
    have rD : D ≠ r := fun e => by rw [e, hr1] at nD; cases nD
    have lD : D ≠ l := fun e => by rw [e, hl] at nD; cases nD
    refine lc_list (K := K) (a := l) (xs := natV ps) (fun i H' => But a H H' ∧ Sto H' a ca ∧ H' l = some (.lst (natV ps)) ∧ H' r = some (.lst xs) ∧ H' D = some (.lst ((ps.take i).filterMap fun j => xs[j]?)))
      ⟨B1.trans (But.new nD), S1.new nD, by rw [upd_ne (Ne.symm lD)]; exact hl, by rw [upd_ne (Ne.symm rD)]; exact hr1, upd_same⟩ (fun i H' _ h => .inl (.inl h.2.2.1)) ?_ ?_
    · rintro i v H2 hv ⟨B2, S2, hl2, hr2, hD2⟩
      unfold natV at hv
      rw [List.getElem?_map] at hv
      cases ej : ps[i]? with
      | none =>
        rw [ej] at hv
        cases hv
      | some j =>
      rw [ej] at hv
      have ev : V.int ((j : Nat) : Int) = v := Option.some.inj hv
      subst ev
      have hj : j < xs.length := List.mem_range.mp (perm.mem_iff.mp (List.mem_of_getElem? ej))
      have ex := List.getElem?_eq_getElem hj
      have pl2 : ((ps.take i).filterMap fun j => xs[j]?).length ≤ 1000 := Nat.le_trans (List.length_filterMap_le _ _) (by
        have := perm.length_eq
        rw [List.length_range] at this
        rw [List.length_take]
        omega)
      refine ⟨rfl, _, rfl, _, rfl, _, _, _, _, rfl, rfl, .inl (.inl hr2), atI_nat ex, _, hD2, Nat.lt_of_le_of_lt pl2 (by decide), ?_, S2.put nDa, ?_, ?_, ?_⟩
      · exact B1.grown nD B2 hD2
      · rw [upd_ne (Ne.symm lD)]
        exact hl2
      · rw [upd_ne (Ne.symm rD)]
        exact hr2
      · rw [upd_same, List.take_add_one, ej]
        simp only [Option.toList, List.filterMap_append, List.filterMap_cons, List.filterMap_nil, ex]
    · rintro H2 ⟨B2, S2, hl2, hr2, hD2⟩
      have e : (natV ps).length = ps.length := List.length_map ..
      rw [e, List.take_length] at hD2
      refine q _ D H2 ?_ B2 S2 (B1.free nD nDa.1) nDa.1 nDa.2 hD2
      have := perm.filterMap fun j => xs[j]?
      exact this.trans (List.Perm.of_eq (pick_all xs))

def sp_turn_word (_ : PySem.W.Frag) : Sp := fun vs H Q _ => ∃ x : Str, vs = [.str x] ∧ x.length ≤ 1000000 ∧ Q (.str (revS x)) H
theorem ok_turn_word (T : Txt K mg base) : FnOk P w K mg base CX0 (0 + 1) T.f_turn_word T.fd_turn_word ["word"] (sp_turn_word K) := by
  refine T.F_turn_word.ok sc_turn_word (fun vs H Q E h => ?_) (fun cdv A outer s H vs Q E hr h => ?_)
  · obtain ⟨x, rfl, _⟩ := h
    rfl
  · obtain ⟨x, rfl, lx, q⟩ := h
    refine ⟨_, (pss_one (ps_ret (pe_revT (pv 0)))), ?_⟩
    exact ⟨_, rfl, x, rfl, small_text lx, q⟩

def sp_turned_right (_ : PySem.W.Frag) : Sp := fun vs H Q _ => ∃ x : Str, vs = [.str x] ∧ x.length ≤ 100000 ∧ Q (.bl true) H
theorem ok_turned_right (T : Txt K mg base) : FnOk P w K mg base CX0 (10 + 1) T.f_turned_right T.fd_turned_right ["word"] (sp_turned_right K) := by
  refine T.F_turned_right.ok sc_turned_right (fun vs H Q E h => ?_) (fun cdv A outer s H vs Q E hr h => ?_)
  · obtain ⟨x, rfl, _⟩ := h
    rfl
  · obtain ⟨x, rfl, lx, q⟩ := h
    refine ⟨_, (pss_cons (ps_set (i := 1) sc_turned_right.nd rfl (.inl rfl) pe_str)
      (pss_cons (ps_for PassesOwn.never rfl (pi_str (pv 0)) (pg_name (i := 2) sc_turned_right.nd rfl (.inl rfl)) (pss_one (ps_set (i := 1) sc_turned_right.nd rfl (.inl rfl) (pe_op op_add_str (pv 2) (pv 1)))))
      (pss_one (ps_ret (pe_and (pe_call (ok_same T) (hr.mono (by first | decide | exact Nat.le_refl _)) (by rfl) T.g_same T.F_same.kp T.b_same .nil pass0 (pa_cons (pe_call (ok_turn_word T) (hr.mono (by first | decide | exact Nat.le_refl _)) (by rfl) T.g_turn_word T.F_turn_word.kp T.b_turn_word .nil pass0 (pa_cons (pv 0) pa_nil)) (pa_cons (pv 1) pa_nil))) (pe_one (pe_call (ok_same T) (hr.mono (by first | decide | exact Nat.le_refl _)) (by rfl) T.g_same T.F_same.kp T.b_same .nil pass0 (pa_cons (pe_call (ok_turn_word T) (hr.mono (by first | decide | exact Nat.le_refl _)) (by rfl) T.g_turn_word T.F_turn_word.kp T.b_turn_word .nil pass0 (pa_cons (pv 1) pa_nil)) (pa_cons (pv 0) pa_nil))))))))), ?_⟩
    refine ⟨_, rfl, x, rfl, for_str (fun i σ H' => ∃ (b : Str) (y : Option V), σ = [some (.str x), some (.str b), y] ∧ H' = H ∧ cs b = ((cs x).take i).reverse) ⟨_, none, rfl, rfl, by rw [cs_empty]; simp⟩ ?_ ?_⟩
    · rintro i c σ H' hc ⟨b, y, rfl, rfl, eb⟩
      have lb : b.length ≤ 100000 := by
        rw [← cs_len, eb, List.length_reverse, List.length_take, cs_len]
        omega
      refine ⟨_, rfl, _, rfl, _, _, rfl, rfl, small_text ?_, _, _, rfl, rfl, ?_⟩
      · show 1 + b.length ≤ 1000000
        omega
      · rw [cs_app, cs_one, eb, List.take_add_one, hc]
        simp
    · rintro σ H' ⟨b, y, rfl, rfl, eb⟩
      rw [List.take_length] at eb
      have e : b = revS x := cs_ext (by rw [eb, cs_revS])
      have e2 : revS b = x := cs_ext (by rw [cs_revS, eb, List.reverse_reverse])
      subst e
      have lr : (revS x).length ≤ 1000000 := by
        rw [← cs_len, cs_revS, List.length_reverse, cs_len]
        omega
      exact ⟨_, rfl, x, rfl, by omega, _, rfl, _, _, rfl, same_str, _, rfl, iteC rfl ⟨_, rfl, _, rfl, lr, _, rfl, _, _, rfl, by rw [e2]; exact same_str, q⟩⟩

def sp_unlike_word (_ : PySem.W.Frag) : Sp := fun vs H Q _ => ∃ (a ca : Addr) (z x : Str), vs = [.ref a, .str z, .str x] ∧ Sto H a ca ∧ 0 < z.length ∧ z.length ≤ 1000000 ∧ (cs z).Nodup ∧ x.length ≤ 100000 ∧ Over z x ∧
  ∀ (v : Str) (H' : Hp), Over z v → v.length ≤ x.length + 1 → But a H H' → Sto H' a ca → Q (.str v) H'
theorem ok_unlike_word (T : Txt K mg base) : FnOk P w K mg base CX0 (3 + 1) T.f_unlike_word T.fd_unlike_word ["store", "letters", "word"] (sp_unlike_word K) := by
  refine T.F_unlike_word.ok sc_unlike_word (fun vs H Q E h => ?_) (fun cdv A outer s H vs Q E hr h => ?_)
  · obtain ⟨a, ca, z, x, rfl, _⟩ := h
    rfl
  · obtain ⟨a, ca, z, x, rfl, S, z0, z1, zn, xl, ox, q⟩ := h
    refine ⟨_, (pss_cons (ps_set (i := 3) sc_unlike_word.nd rfl (.inl rfl) (pe_call (ok_take T) (hr.mono (by first | decide | exact Nat.le_refl _)) (by rfl) T.g_take T.F_take.kp T.b_take .nil pass0 (pa_cons (pv 0) (pa_cons pe_int pa_nil))))
      (pss_cons (ps_set (i := 4) sc_unlike_word.nd rfl (.inr rfl) (pe_call (ok_take T) (hr.mono (by first | decide | exact Nat.le_refl _)) (by rfl) T.g_take T.F_take.kp T.b_take .nil pass0 (pa_cons (pv 0) (pa_cons (pe_op op_add (pe_callB call_len_str (by rfl) T.z_len PySem.boot_len (pa_cons (pv 2) pa_nil)) pe_int) pa_nil))))
      (pss_cons (ps_if (PW.pt (pw_or (pt_cmpR op_eq (pv 3) pe_int (nomark _)) (pw_or (pt_cmpR op_eq (pv 2) pe_str (nomark _)) (pw_or1 (PW.pt (pw_and (pt_cmpR op_eq (pv 3) pe_int (nomark _)) (pw_and1 (pt_cmpR op_eq (pe_callB call_len_str (by rfl) T.z_len PySem.boot_len (pa_cons (pv 1) pa_nil)) pe_int (nomark _))))))))) (pss_one (ps_ret (pe_op op_add_str (pe_op op_add_str (pe_slice sl_str (pv 2) po_none (po_some (pv 4))) (pe_call (ok_pick T) (hr.mono (by first | decide | exact Nat.le_refl _)) (by rfl) T.g_pick T.F_pick.kp T.b_pick .nil pass0 (pa_cons (pv 0) (pa_cons (pv 1) pa_nil)))) (pe_slice sl_str (pv 2) (po_some (pv 4)) po_none)))) pss_nil)
      (pss_cons (ps_set (i := 4) sc_unlike_word.nd rfl (.inr rfl) (pe_call (ok_take T) (hr.mono (by first | decide | exact Nat.le_refl _)) (by rfl) T.g_take T.F_take.kp T.b_take .nil pass0 (pa_cons (pv 0) (pa_cons (pe_callB call_len_str (by rfl) T.z_len PySem.boot_len (pa_cons (pv 2) pa_nil)) pa_nil))))
      (pss_cons (ps_if (pt_cmpR op_eq (pv 3) pe_int (nomark _)) (pss_one (ps_ret (pe_op op_add_str (pe_slice sl_str (pv 2) po_none (po_some (pv 4))) (pe_slice sl_str (pv 2) (po_some (pe_op op_add (pv 4) pe_int)) po_none)))) pss_nil)
      (pss_one (ps_ret (pe_op op_add_str (pe_op op_add_str (pe_slice sl_str (pv 2) po_none (po_some (pv 4))) (pe_call (ok_pick T) (hr.mono (by first | decide | exact Nat.le_refl _)) (by rfl) T.g_pick T.F_pick.kp T.b_pick .nil pass0 (pa_cons (pv 0) (pa_cons (pe_lc (own := [("x", 5)]) (g := gName 5) rfl sc_unlike_word.nd (pi_str (pv 1)) (blkOk_by (N := ["store", "letters", "word", "draw", "at", "x"]) (sc := defScope s_unlike_word) (by decide +kernel)) (fun _ _ _ _ _ => pg_name (i := 5) sc_unlike_word.nd rfl (Or.inl rfl)) (fun _ _ _ _ _ => (pts_one (pt_cmpR op_ne (pv 5) (pe_ix ix_str (pv 2) (pv 4) (fun _ _ => rfl)) (nomark _)))) (fun _ _ _ _ _ => (pv 5))) pa_nil)))) (pe_slice sl_str (pv 2) (po_some (pe_op op_add (pv 4) pe_int)) po_none))))))))), ?_⟩
    have sx : x.length ≤ sizeLine := small_text (by omega)
    refine ⟨_, rfl, a, ca, 3, rfl, S, by decide, fun d H1 d0 d1 B1 S1 => ?_⟩
    refine ⟨_, rfl, _, rfl, x, rfl, sx, _, _, rfl, rfl, a, ca, _, rfl, S1, by show (x.length : Int) + 1 < 1073741824; omega, fun e H2 e0 e1 B2 S2 => ?_⟩
    have e1' : e < (x.length : Int) + 1 ∨ e = 0 := e1
    obtain ⟨j, rfl⟩ := Int.eq_ofNat_of_zero_le e0
    have B12 := B1.trans B2
    have lj : (cutS x none (some (j : Int))).length = j := by
      rw [← cs_len, cs_upto, List.length_take, cs_len]
      omega
    have ld : (cutS x (some (j : Int)) none).length = x.length - j := by
      rw [← cs_len, cs_from, List.length_drop, cs_len]
    have lt3 : d < 3 := by
      have : d < 3 ∨ d = 0 := d1
      omega
    refine ⟨_, rfl, rfl, _, rfl, ite2 (fun g1 => ?A1) (fun g1 => ⟨_, rfl, rfl, _, rfl, ite2 (fun g2 => ?A2) (fun g2 => ⟨_, rfl, rfl, _, rfl, ite2 (fun g3 => ⟨_, rfl, z, rfl, small_text z1, rfl, _, rfl, ite2 (fun g4 => ?A3) (fun g4 => ?B1)⟩) (fun g3 => ?B2)⟩)⟩)⟩
    case A1 | A2 | A3 =>
      refine ⟨_, rfl, _, rfl, _, rfl, x, rfl, sx, _, rfl, _, rfl, a, ca, S2, .inl ⟨z, rfl, z0, z1, fun c H3 hc B3 S3 => ?_⟩⟩
      refine ⟨_, _, rfl, rfl, small_text (by rw [lj]; show j + 1 ≤ 1000000; omega), _, rfl, _, rfl, _, rfl, x, rfl, sx, _, _, rfl, rfl, small_text ?_, ?_⟩
      · rw [length_app, lj, ld]
        show j + 1 + (x.length - j) ≤ 1000000
        omega
      · refine q _ _ ((ox.cut.app (Over.one hc)).app ox.cut) ?_ (B12.trans B3) S3
        rw [length_app, length_app, lj, ld]
        show j + 1 + (x.length - j) ≤ x.length + 1
        omega
    case B1 | B2 =>
      have hx0 : 0 < x.length := by
        rcases Nat.eq_zero_or_pos x.length with e | e
        · exfalso
          refine g2 (decide_eq_true ?_)
          have : cs x = [] := List.length_eq_zero_iff.mp (by rw [cs_len]; exact e)
          exact congrArg V.str (cs_ext (this.trans cs_empty.symm))
        · exact e
      refine ⟨_, rfl, _, rfl, x, rfl, sx, a, ca, _, rfl, S2, by show (x.length : Int) < 1073741824; omega, fun k H3 k0 k1 B3 S3 => ?_⟩
      have k1' : k < (x.length : Int) ∨ k = 0 := k1
      obtain ⟨i, rfl⟩ := Int.eq_ofNat_of_zero_le k0
      have hi : i < x.length := by omega
      have li : (cutS x none (some (i : Int))).length = i := by
        rw [← cs_len, cs_upto, List.length_take, cs_len]
        omega
      have le : (cutS x (some ((i : Int) + 1)) none).length = x.length - (i + 1) := by
        rw [← cs_len, show ((i : Int) + 1) = ((i + 1 : Nat) : Int) from rfl, cs_from, List.length_drop, cs_len]
      have B123 := B12.trans B3
      refine ⟨_, rfl, rfl, _, rfl, ite2 (fun g5 => ?_) (fun g5 => ?_)⟩
      · refine ⟨_, rfl, _, rfl, _, rfl, x, rfl, sx, _, rfl, _, rfl, _, _, rfl, rfl, _, rfl, x, rfl, sx, _, _, rfl, rfl, small_text (by rw [li, le]; omega), ?_⟩
        refine q _ _ (ox.cut.app ox.cut) ?_ B123 S3
        rw [length_app, li, le]
        omega
      · have d01 : d = 1 := by
          have n0 : d ≠ 0 := fun e => g1 (decide_eq_true (congrArg V.int e))
          have n2 : d ≠ 2 := fun e => g5 (decide_eq_true (congrArg V.int e))
          omega
        try exact absurd (decide_eq_true (congrArg V.int d01)) g3
        all_goals (
          have z2 : 2 ≤ z.length := by
            have : z.length ≠ 1 := fun e => g4 (decide_eq_true (congrArg V.int (by rw [e]; rfl)))
            omega
          have hic : i < (cs x).length := by rw [cs_len]; exact hi
          have hat : atI (cs x) (i : Int) = some (cs x)[i] := atI_nat (List.getElem?_eq_getElem hic)
          refine ⟨_, rfl, _, rfl, _, rfl, x, rfl, sx, _, rfl, _, rfl, z, rfl, fun D hD => ?_⟩
          have nD := S3.ne hD
          refine lc_it walk_str (fun n H' => H' D = some (.lst ((((cs z).take n).filter (fun c => !decide (c = (cs x)[i]))).map fun c => V.str ⟨#[c]⟩)) ∧ But a H H' ∧ Sto H' a ca) ⟨by rw [upd_same, List.take_zero]; rfl, B123.trans (But.new hD), S3.new hD⟩ (fun _ _ _ _ => trivial) ?_ ?_
          · rintro n v H4 H5 hn ⟨h1, h2, h3⟩ ⟨rfl, c, hc, rfl⟩
            have hc' : (cs z)[n]? = some c := by
              show z.cps.toList[n]? = some c
              rw [Array.getElem?_toList]
              exact hc
            refine ⟨rfl, _, rfl, _, rfl, _, rfl, x, _, _, rfl, rfl, sx, hat, rfl, _, rfl, ite2 (fun g6 => ?_) (fun g6 => ?_)⟩
            · refine ⟨_, rfl, _, h1, ?_, ?_, ?_, ?_⟩
              · rw [List.length_map]
                refine Nat.lt_of_le_of_lt (List.length_filter_le _ _) (Nat.lt_of_le_of_lt (m := 1000000) ?_ (by decide))
                rw [List.length_take, cs_len]
                omega
              · rw [upd_same, List.take_add_one, hc', List.filter_append, List.map_append]
                have nc : c ≠ (cs x)[i] := fun e => by
                  rw [e] at g6
                  simp at g6
                simp [nc]
              · exact B123.grown hD h2 (by assumption)
              · exact h3.put nD
            · have ec : c = (cs x)[i] := by
                by_cases e : c = (cs x)[i]
                · exact e
                · exfalso
                  apply g6
                  simp [e]
              refine ⟨?_, h2, h3⟩
              rw [h1, List.take_add_one, hc', List.filter_append]
              simp [ec]
          · rintro H4 ⟨h1, h2, h3⟩
            have ez : (cs z).take z.cps.size = cs z := List.take_of_length_le (by rw [cs_len]; exact Nat.le_refl _)
            rw [ez] at h1
            have some_c : ∃ c ∈ cs z, c ≠ (cs x)[i] := by
              have l2 : 2 ≤ (cs z).length := by rw [cs_len]; exact z2
              match hz : cs z, l2, zn with
              | c1 :: c2 :: r, _, zn =>
                by_cases e : c1 = (cs x)[i]
                · refine ⟨c2, List.mem_cons_of_mem _ List.mem_cons_self, fun e2 => ?_⟩
                  have := (List.nodup_cons.mp zn).1
                  exact this (by rw [e, ← e2]; exact List.mem_cons_self)
                · exact ⟨c1, List.mem_cons_self, e⟩
            obtain ⟨c0, hc0, n0⟩ := some_c
            refine ⟨a, ca, h3, .inr ⟨D, _, rfl, nD.1, h1, ?_, ?_, fun v H5 hv B5 S5 => ?_⟩⟩
            · rw [List.length_map]
              exact List.length_pos_of_mem (List.mem_filter.mpr ⟨hc0, by simp [n0]⟩)
            · rw [List.length_map]
              refine Nat.le_trans (List.length_filter_le _ _) ?_
              rw [cs_len]
              omega
            · obtain ⟨c, hc, rfl⟩ := List.mem_map.mp hv
              have hcz := (List.mem_filter.mp hc).1
              refine ⟨_, _, rfl, rfl, small_text (by rw [li]; show i + 1 ≤ 1000000; omega), _, rfl, _, rfl, _, _, rfl, rfl, _, rfl, x, rfl, sx, _, _, rfl, rfl, small_text ?_, ?_⟩
              · rw [length_app, li, le]
                show i + 1 + (x.length - (i + 1)) ≤ 1000000
                omega
              · refine q _ _ ((ox.cut.app (Over.one hcz)).app ox.cut) ?_ (h2.trans B5) S5
                rw [length_app, length_app, li, le]
                show i + 1 + (x.length - (i + 1)) ≤ x.length + 1
                omega)

/-- a new list of at most n words -/
def sp_words (_ : PySem.W.Frag) : Sp := fun vs H Q _ => ∃ (a ca : Addr) (z : Str) (n m : Int), vs = [.ref a, .str z, .int n, .int m] ∧ Sto H a ca ∧ 0 < z.length ∧ z.length ≤ 1000000 ∧ 0 ≤ n ∧ n ≤ 1000 ∧ 0 ≤ m ∧ m ≤ 100000 ∧
  ∀ (ws : List Str) (p : Addr) (H' : Hp), (∀ x ∈ ws, Over z x ∧ (x.length : Int) ≤ m) → (ws.length : Int) ≤ n → But a H H' → Sto H' a ca → H p = none → p ≠ a → p ≠ ca → H' p = some (.lst (ws.map V.str)) → Q (.ref p) H'
theorem ok_words (T : Txt K mg base) : FnOk P w K mg base CX0 (4 + 1) T.f_words T.fd_words ["store", "letters", "size", "limit"] (sp_words K) := by
  refine T.F_words.ok sc_words (fun vs H Q E h => ?_) (fun cdv A outer s H vs Q E hr h => ?_)
  · obtain ⟨a, ca, z, n, m, rfl, _⟩ := h
    rfl
  · obtain ⟨a, ca, z, n, m, rfl, S, z0, z1, n0, n1, m0, m1, q⟩ := h
    refine ⟨_, (pss_cons (ps_set (i := 4) sc_words.nd rfl (.inl rfl) (pe_lst pa_nil))
      (pss_cons (ps_for PassesOwn.never rfl (pi_range1 (by rfl) T.z_range (pa_cons (pe_call (ok_between T) (hr.mono (by first | decide | exact Nat.le_refl _)) (by rfl) T.g_between T.F_between.kp T.b_between .nil pass0 (pa_cons (pv 0) (pa_cons pe_int (pa_cons (pv 2) pa_nil)))) pa_nil)) (pg_name (i := 5) sc_words.nd rfl (.inl rfl)) (pss_cons (ps_set (i := 6) sc_words.nd rfl (.inl rfl) (pe_call (ok_word T) (hr.mono (by first | decide | exact Nat.le_refl _)) (by rfl) T.g_word T.F_word.kp T.b_word .nil pass0 (pa_cons (pv 0) (pa_cons (pv 1) (pa_cons (pv 3) pa_nil)))))
      (C8.pss_cut (ps_if (PW.pt (pw_and (pt_truth (pv 4) (by intro _; rfl)) (pw_and1 (pt_cmpR op_eq (pe_call (ok_take T) (hr.mono (by first | decide | exact Nat.le_refl _)) (by rfl) T.g_take T.F_take.kp T.b_take .nil pass0 (pa_cons (pv 0) (pa_cons pe_int pa_nil))) pe_int (nomark _))))) (pss_one (ps_set (i := 6) sc_words.nd rfl (.inl rfl) (pe_call (ok_pick T) (hr.mono (by first | decide | exact Nat.le_refl _)) (by rfl) T.g_pick T.F_pick.kp T.b_pick .nil pass0 (pa_cons (pv 0) (pa_cons (pv 4) pa_nil))))) pss_nil)
      (C8.pss_cut (ps_if (PW.pt (pw_and (pt_truth (pv 4) (by intro _; rfl)) (pw_and1 (pt_cmpR op_eq (pe_call (ok_take T) (hr.mono (by first | decide | exact Nat.le_refl _)) (by rfl) T.g_take T.F_take.kp T.b_take .nil pass0 (pa_cons (pv 0) (pa_cons pe_int pa_nil))) pe_int (nomark _))))) (pss_one (ps_set (i := 6) sc_words.nd rfl (.inl rfl) (pe_slice sl_str (pe_op op_add_str (pe_call (ok_pick T) (hr.mono (by first | decide | exact Nat.le_refl _)) (by rfl) T.g_pick T.F_pick.kp T.b_pick .nil pass0 (pa_cons (pv 0) (pa_cons (pv 4) pa_nil))) (pv 6)) po_none (po_some (pv 3))))) pss_nil)
      (pss_one (ps_expr (pe_bm PySem.F.plainAttrs_list PySem.F.slot_list_append PySem.F.type_list_append mt_append (pv 4) (pa_cons (pv 6) pa_nil))))))))
      (pss_one (ps_ret (pv 4))))), ?_⟩
    refine ⟨Nat.zero_le _, fun p np => ?_⟩
    have S1 := S.new (o := .lst []) np
    have npa := S.ne np
    refine ⟨_, rfl, _, rfl, a, ca, 0, n, rfl, S1, by omega, fun r H2 r0 r1 B2 S2 => ?_⟩
    refine ⟨r, rfl, by omega, by omega, ?_⟩
    have hp2 := B2 _ _ npa.1 (upd_same (H := H) (o := .lst []) (a := p))
    refine for_range (lo := 0) (n := r.toNat) (fun i σ H' => ∃ (ws : List Str) (yk yw : Option V), σ = [some (.ref a), some (.str z), some (.int n), some (.int m), some (.ref p), yk, yw] ∧ (∀ x ∈ ws, Over z x ∧ (x.length : Int) ≤ m) ∧ ws.length = i ∧ But a H H' ∧ Sto H' a ca ∧ H' p = some (.lst (ws.map V.str))) ?_ ?_ ?_
    · exact ⟨[], none, none, rfl, fun x hx => absurd hx List.not_mem_nil, rfl, (But.new np).trans B2, S2, hp2⟩
    · rintro i σ H3 hi ⟨ws, yk, yw, rfl, hw, hl, B3, S3, hp⟩
      have hi' : i < 1000 := by
        have : i < r.toNat := hi
        omega
      have pk : ∀ {H' : Hp}, H' p = some (.lst (ws.map V.str)) → SqL K H' p (ws.map V.str) := fun h => .inl (.inl h)
      have emp : (!(ws.map V.str).isEmpty) = true → 0 < ws.length := fun e => by
        cases ws with
        | nil => cases e
        | cons x r => exact Nat.succ_pos _
      refine ⟨_, rfl, _, rfl, _, rfl, a, ca, z, m, rfl, S3, z0, z1, m1, fun x H4 ox lx B4 S4 => ?_⟩
      have lx' : (x.length : Int) ≤ m := by
        rw [if_neg (by omega)] at lx
        exact lx
      have hp4 := B4 _ _ npa.1 hp
      refine ⟨fun σ H' => ∃ y : Str, σ = [some (.ref a), some (.str z), some (.int n), some (.int m), some (.ref p), some (.int (0 + (i : Int))), some (.str y)] ∧ Over z y ∧ (y.length : Int) ≤ m ∧ But a H H' ∧ Sto H' a ca ∧ H' p = some (.lst (ws.map V.str)), ?_, ?_⟩
      · refine ⟨_, rfl, _, .inl ⟨_, pk hp4, rfl⟩, ite2 (fun e => ⟨_, rfl, a, ca, 3, rfl, S4, by decide, fun d H5 _ _ B5 S5 => ⟨rfl, _, rfl, ite2 (fun _ => ?_) (fun _ => ?_)⟩⟩) (fun _ => ?_)⟩
        · have hp5 := B5 _ _ npa.1 hp4
          have w0 := emp e
          refine ⟨_, rfl, _, rfl, a, ca, S5, .inr ⟨p, _, rfl, npa.1, hp5, by rw [List.length_map]; exact w0, by rw [List.length_map]; omega, fun v H6 hv B6 S6 => ?_⟩⟩
          obtain ⟨y, hy, rfl⟩ := List.mem_map.mp hv
          exact ⟨y, rfl, (hw y hy).1, (hw y hy).2, ((B3.trans B4).trans B5).trans B6, S6, B6 _ _ npa.1 hp5⟩
        · exact ⟨x, rfl, ox, lx', (B3.trans B4).trans B5, S5, B5 _ _ npa.1 hp4⟩
        · exact ⟨x, rfl, ox, lx', B3.trans B4, S4, hp4⟩
      · rintro σ H5 ⟨y, rfl, oy, ly, B5, S5, hp5⟩
        refine ⟨fun σ H' => ∃ y : Str, σ = [some (.ref a), some (.str z), some (.int n), some (.int m), some (.ref p), some (.int (0 + (i : Int))), some (.str y)] ∧ Over z y ∧ (y.length : Int) ≤ m ∧ But a H H' ∧ Sto H' a ca ∧ H' p = some (.lst (ws.map V.str)), ?_, ?_⟩
        · refine ⟨_, rfl, _, .inl ⟨_, pk hp5, rfl⟩, ite2 (fun e => ⟨_, rfl, a, ca, 4, rfl, S5, by decide, fun d H6 _ _ B6 S6 => ⟨rfl, _, rfl, ite2 (fun _ => ?_) (fun _ => ?_)⟩⟩) (fun _ => ?_)⟩
          · have hp6 := B6 _ _ npa.1 hp5
            have w0 := emp e
            refine ⟨_, rfl, _, rfl, a, ca, S6, .inr ⟨p, _, rfl, npa.1, hp6, by rw [List.length_map]; exact w0, by rw [List.length_map]; omega, fun v H7 hv B7 S7 => ?_⟩⟩
            obtain ⟨u, hu, rfl⟩ := List.mem_map.mp hv
            have lu := (hw u hu).2
            obtain ⟨k, rfl⟩ := Int.eq_ofNat_of_zero_le m0
            refine ⟨_, rfl, _, _, rfl, rfl, small_text (by omega), _, rfl, _, rfl, _, rfl, small_text (by rw [length_app]; omega), _, rfl, ((hw u hu).1.app oy).cut, ?_, (B5.trans B6).trans B7, S7, B7 _ _ npa.1 hp6⟩
            rw [← cs_len, cs_upto, List.length_take]
            omega
          · exact ⟨y, rfl, oy, ly, B5.trans B6, S6, B6 _ _ npa.1 hp5⟩
          · exact ⟨y, rfl, oy, ly, B5, S5, hp5⟩
        · rintro σ H6 ⟨y, rfl, oy, ly, B6, S6, hp6⟩
          refine ⟨_, rfl, .inl ⟨rfl, _, pk hp6⟩, _, rfl, p, _, _, rfl, rfl, hp6, by rw [List.length_map]; exact Nat.lt_of_lt_of_le (by omega : ws.length < 1000000) (by decide), ws ++ [y], _, _, rfl, ?_, by rw [List.length_append, hl]; rfl, ?_, S6.put npa, by rw [upd_same, List.map_append]; rfl⟩
          · intro x hx
            rcases List.mem_append.mp hx with hx | hx
            · exact hw x hx
            · rw [List.mem_singleton.mp hx]
              exact ⟨oy, ly⟩
          · exact (But.refl H).grown np B6 hp6
    · rintro σ H3 ⟨ws, yk, yw, rfl, hw, hl, B3, S3, hp⟩
      exact ⟨_, rfl, q ws p H3 hw (by omega) B3 S3 np npa.1 npa.2 hp⟩

theorem ok_law (T : Txt K mg base) : FnOk P w K mg base CX0 (11 + 1) T.f_law T.fd_law ["script"] (sp_law K) := by
  refine T.F_law.ok sc_law (fun vs H Q E h => ?_) (fun cdv A outer s H vs Q E hr h => ?_)
  · obtain ⟨a, ns, rfl, _⟩ := h
    rfl
  · obtain ⟨sc, ns, rfl, hS, hlen, good, q⟩ := h
    refine ⟨_, (pss_cons (ps_set (i := 1) sc_law.nd rfl (.inl rfl) (pe_call (ok_store T) (hr.mono (by first | decide | exact Nat.le_refl _)) (by rfl) T.g_store T.F_store.kp T.b_store .nil pass0 (pa_cons (pv 0) pa_nil)))
      (pss_cons (ps_set (i := 2) sc_law.nd rfl (.inl rfl) (pe_call (ok_letters T) (hr.mono (by first | decide | exact Nat.le_refl _)) (by rfl) T.g_letters T.F_letters.kp T.b_letters .nil pass0 (pa_cons (pv 1) (pa_cons pe_int pa_nil))))
      (pss_cons (ps_set (i := 3) sc_law.nd rfl (.inl rfl) (pv 2))
      (C8.pss_cut (ps_if (pt_cmpR op_eq (pe_call (ok_take T) (hr.mono (by first | decide | exact Nat.le_refl _)) (by rfl) T.g_take T.F_take.kp T.b_take .nil pass0 (pa_cons (pv 1) (pa_cons pe_int pa_nil))) pe_int (nomark _)) (pss_one (ps_set (i := 3) sc_law.nd rfl (.inl rfl) pe_str)) pss_nil)
      (pss_cons (ps_set (i := 4) sc_law.nd rfl (.inl rfl) (pe_call (ok_words T) (hr.mono (by first | decide | exact Nat.le_refl _)) (by rfl) T.g_words T.F_words.kp T.b_words .nil pass0 (pa_cons (pv 1) (pa_cons (pv 3) (pa_cons pe_int (pa_cons pe_int pa_nil))))))
      (C8.pss_cut (ps_if (pt_cmpR op_eq (pe_call (ok_take T) (hr.mono (by first | decide | exact Nat.le_refl _)) (by rfl) T.g_take T.F_take.kp T.b_take .nil pass0 (pa_cons (pv 1) (pa_cons pe_int pa_nil))) pe_int (nomark _)) (pss_cons (ps_expr (pe_bm PySem.F.plainAttrs_list PySem.F.slot_list_append PySem.F.type_list_append mt_append (pv 4) (pa_cons (pe_call (ok_long_word T) (hr.mono (by first | decide | exact Nat.le_refl _)) (by rfl) T.g_long_word T.F_long_word.kp T.b_long_word .nil pass0 (pa_cons (pv 1) (pa_cons (pv 3) (pa_cons (pe_call (ok_between T) (hr.mono (by first | decide | exact Nat.le_refl _)) (by rfl) T.g_between T.F_between.kp T.b_between .nil pass0 (pa_cons (pv 1) (pa_cons pe_int (pa_cons pe_int pa_nil)))) pa_nil)))) pa_nil)))
      (pss_one (ps_expr (pe_bm PySem.F.plainAttrs_list PySem.F.slot_list_append PySem.F.type_list_append mt_append (pv 4) (pa_cons (pe_call (ok_unlike_word T) (hr.mono (by first | decide | exact Nat.le_refl _)) (by rfl) T.g_unlike_word T.F_unlike_word.kp T.b_unlike_word .nil pass0 (pa_cons (pv 1) (pa_cons (pv 3) (pa_cons (pe_ix ix_list (pv 4) (pe_un un_neg pe_int) (fun _ _ => rfl)) pa_nil)))) pa_nil))))) pss_nil)
      (pss_cons (ps_if (PW.pt (pw_or (pt_not (pt_val (pe_call (ok_sorted_right T) (hr.mono (by first | decide | exact Nat.le_refl _)) (by rfl) T.g_sorted_right T.F_sorted_right.kp T.b_sorted_right .nil pass0 (pa_cons (pv 4) pa_nil)))) (pw_or1 (pt_not (pt_val (pe_call (ok_sorted_right T) (hr.mono (by first | decide | exact Nat.le_refl _)) (by rfl) T.g_sorted_right T.F_sorted_right.kp T.b_sorted_right .nil pass0 (pa_cons (pe_call (ok_words T) (hr.mono (by first | decide | exact Nat.le_refl _)) (by rfl) T.g_words T.F_words.kp T.b_words .nil pass0 (pa_cons (pv 1) (pa_cons (pv 3) (pa_cons pe_int (pa_cons pe_int pa_nil))))) pa_nil))))))) (pss_one (ps_ret pe_bl)) pss_nil)
      (pss_cons (ps_if (PW.pt (pw_or (pt_not (pt_val (pe_call (ok_sorted_right T) (hr.mono (by first | decide | exact Nat.le_refl _)) (by rfl) T.g_sorted_right T.F_sorted_right.kp T.b_sorted_right .nil pass0 (pa_cons (pe_call (ok_turned T) (hr.mono (by first | decide | exact Nat.le_refl _)) (by rfl) T.g_turned T.F_turned.kp T.b_turned .nil pass0 (pa_cons (pv 1) (pa_cons (pv 4) pa_nil))) pa_nil)))) (pw_or1 (pt_not (pt_val (pe_call (ok_sorted_right T) (hr.mono (by first | decide | exact Nat.le_refl _)) (by rfl) T.g_sorted_right T.F_sorted_right.kp T.b_sorted_right .nil pass0 (pa_cons (pe_lst pa_nil) pa_nil))))))) (pss_one (ps_ret pe_bl)) pss_nil)
      (pss_cons (ps_if (pt_not (pt_val (pe_call (ok_same T) (hr.mono (by first | decide | exact Nat.le_refl _)) (by rfl) T.g_same T.F_same.kp T.b_same .nil pass0 (pa_cons (pe_call (ok_sort_words T) (hr.mono (by first | decide | exact Nat.le_refl _)) (by rfl) T.g_sort_words T.F_sort_words.kp T.b_sort_words .nil pass0 (pa_cons (pe_call (ok_turned T) (hr.mono (by first | decide | exact Nat.le_refl _)) (by rfl) T.g_turned T.F_turned.kp T.b_turned .nil pass0 (pa_cons (pv 1) (pa_cons (pe_op op_cat (pv 4) (pv 4)) pa_nil))) pa_nil)) (pa_cons (pe_call (ok_sort_words T) (hr.mono (by first | decide | exact Nat.le_refl _)) (by rfl) T.g_sort_words T.F_sort_words.kp T.b_sort_words .nil pass0 (pa_cons (pv 4) pa_nil)) pa_nil))))) (pss_one (ps_ret pe_bl)) pss_nil)
      (pss_cons (ps_set (i := 5) sc_law.nd rfl (.inl rfl) (pe_call (ok_take T) (hr.mono (by first | decide | exact Nat.le_refl _)) (by rfl) T.g_take T.F_take.kp T.b_take .nil pass0 (pa_cons (pv 1) (pa_cons pe_int pa_nil))))
      (C8.pss_cut (ps_if (pt_cmpR op_eq (pe_call (ok_take T) (hr.mono (by first | decide | exact Nat.le_refl _)) (by rfl) T.g_take T.F_take.kp T.b_take .nil pass0 (pa_cons (pv 1) (pa_cons pe_int pa_nil))) pe_int (nomark _)) (pss_one (ps_set (i := 5) sc_law.nd rfl (.inl rfl) (pe_call (ok_between T) (hr.mono (by first | decide | exact Nat.le_refl _)) (by rfl) T.g_between T.F_between.kp T.b_between .nil pass0 (pa_cons (pv 1) (pa_cons pe_int (pa_cons pe_int pa_nil)))))) pss_nil)
      (pss_cons (ps_if (PW.pt (pw_or (pt_not (pt_val (pe_call (ok_all_right T) (hr.mono (by first | decide | exact Nat.le_refl _)) (by rfl) T.g_all_right T.F_all_right.kp T.b_all_right .nil pass0 (pa_cons (pv 2) (pa_cons (pv 5) pa_nil))))) (pw_or1 (pt_not (pt_val (pe_call (ok_all_right T) (hr.mono (by first | decide | exact Nat.le_refl _)) (by rfl) T.g_all_right T.F_all_right.kp T.b_all_right .nil pass0 (pa_cons (pe_call (ok_letters T) (hr.mono (by first | decide | exact Nat.le_refl _)) (by rfl) T.g_letters T.F_letters.kp T.b_letters .nil pass0 (pa_cons (pv 1) (pa_cons pe_int pa_nil))) (pa_cons (pe_call (ok_take T) (hr.mono (by first | decide | exact Nat.le_refl _)) (by rfl) T.g_take T.F_take.kp T.b_take .nil pass0 (pa_cons (pv 1) (pa_cons pe_int pa_nil))) pa_nil)))))))) (pss_one (ps_ret pe_bl)) pss_nil)
      (pss_cons (ps_for PassesOwn.never rfl (pi_list (pv 4)) (pg_name (i := 6) sc_law.nd rfl (.inl rfl)) (pss_one (ps_if (pt_not (pt_val (pe_call (ok_turned_right T) (hr.mono (by first | decide | exact Nat.le_refl _)) (by rfl) T.g_turned_right T.F_turned_right.kp T.b_turned_right .nil pass0 (pa_cons (pv 6) pa_nil)))) (pss_one (ps_ret pe_bl)) pss_nil)))
      (pss_cons (ps_for PassesOwn.never rfl (pi_list (pe_lst (pa_cons pe_str (pa_cons (pe_call (ok_word T) (hr.mono (by first | decide | exact Nat.le_refl _)) (by rfl) T.g_word T.F_word.kp T.b_word .nil pass0 (pa_cons (pv 1) (pa_cons (pv 2) (pa_cons pe_int pa_nil)))) (pa_cons (pe_call (ok_word T) (hr.mono (by first | decide | exact Nat.le_refl _)) (by rfl) T.g_word T.F_word.kp T.b_word .nil pass0 (pa_cons (pv 1) (pa_cons (pv 2) (pa_cons pe_int pa_nil)))) pa_nil))))) (pg_name (i := 6) sc_law.nd rfl (.inl rfl)) (pss_one (ps_if (PW.pt (pw_or (pt_not (pt_val (pe_call (ok_shown_right T) (hr.mono (by first | decide | exact Nat.le_refl _)) (by rfl) T.g_shown_right T.F_shown_right.kp T.b_shown_right .nil pass0 (pa_cons (pv 2) (pa_cons (pv 6) pa_nil))))) (pw_or1 (pt_not (pt_val (pe_call (ok_turned_right T) (hr.mono (by first | decide | exact Nat.le_refl _)) (by rfl) T.g_turned_right T.F_turned_right.kp T.b_turned_right .nil pass0 (pa_cons (pv 6) pa_nil))))))) (pss_one (ps_ret pe_bl)) pss_nil)))
      (pss_one (ps_ret pe_bl)))))))))))))))), ?_⟩
    refine ⟨_, rfl, sc, ns, rfl, hS, hlen, fun a ca H1 s1 na S1 => ?_⟩
    have g1 := s1.good good
    refine ⟨_, rfl, a, ca, 4, rfl, S1, fun z H2 az B2 S2 => ?_⟩
    refine ⟨_, rfl, ?_⟩
    refine ⟨fun σ' H' => ∃ sg : Str, σ' = [some (.ref sc), some (.ref a), some (.str z), some (.str sg), none, none, none] ∧ 0 < sg.length ∧ sg.length ≤ 26 ∧ (cs sg).Nodup ∧ But a H1 H' ∧ Sto H' a ca, ?_, ?_⟩
    · refine ⟨_, rfl, a, ca, 4, rfl, S2, by decide, fun e H3 e0 e1 B3 S3 => ⟨rfl, _, rfl, ite2 (fun _ => ?_) (fun _ => ?_)⟩⟩
      · exact ⟨abc, rfl, by rw [len_abc]; decide, by rw [len_abc]; decide, by rw [cs_abc]; decide, B2.trans B3, S3⟩
      · exact ⟨z, rfl, az.len1, Nat.le_trans az.len4 (by decide), az.nodup, B2.trans B3, S3⟩
    rintro σ' H3 ⟨sg, rfl, sg0, sg26, sgn, B3, S3⟩
    have sgs : sg.length ≤ 1000000 := by omega
    -- the words
    refine ⟨_, rfl, _, rfl, a, ca, sg, 12, 6, rfl, S3, sg0, sgs, by decide, by decide, by decide, by decide, fun ws0 p H4 hw0 lw0 B4 S4 np npa npc hp0 => ?_⟩
    refine ⟨fun σ' H' => ∃ ws : List Str, σ' = [some (.ref sc), some (.ref a), some (.str z), some (.str sg), some (.ref p), none, none] ∧ (∀ x ∈ ws, x.length ≤ 1000) ∧ ws.length ≤ 14 ∧ But a H1 H' ∧ Sto H' a ca ∧ H' p = some (.lst (ws.map V.str)), ?_, ?_⟩
    · refine ⟨_, rfl, a, ca, 40, rfl, S4, by decide, fun e H5 e0 e1 B5 S5 => ⟨rfl, _, rfl, ite2 (fun _ => ?_) (fun _ => ?_)⟩⟩
      · have hp5 := B5 _ _ npa hp0
        have B35 := (B3.trans B4).trans B5
        refine ⟨_, rfl, .inl ⟨rfl, _, .inl (.inl hp5)⟩, _, rfl, _, rfl, _, rfl, a, ca, 7, 600, rfl, S5, by decide, fun r H6 r0 r1 B6 S6 => ⟨a, ca, sg, r, rfl, S6, sg0, sgs, by omega, by omega, fun v H7 ov lv B7 S7 => ?_⟩⟩
        have hp7 := B7 _ _ npa (B6 _ _ npa hp5)
        have lv' : v.length ≤ 600 := by
          rw [if_neg (by omega)] at lv
          omega
        refine ⟨p, _, _, rfl, rfl, hp7, by rw [List.length_map]; exact Nat.lt_of_lt_of_le (by omega : ws0.length < 1000000) (by decide), ?_⟩
        have hp8 : (upd H7 p (.lst (ws0.map V.str ++ [.str v]))) p = some (.lst ((ws0 ++ [v]).map V.str)) := by
          rw [upd_same, List.map_append]
          rfl
        have S8 : Sto (upd H7 p (.lst (ws0.map V.str ++ [.str v]))) a ca := S7.put ⟨npa, npc⟩
        have B8 : But a H1 (upd H7 p (.lst (ws0.map V.str ++ [.str v]))) := B3.grown np ((B35.trans B6).trans B7) hp7
        generalize upd H7 p (.lst (ws0.map V.str ++ [.str v])) = H8 at hp8 S8 B8 ⊢
        refine ⟨_, rfl, .inl ⟨rfl, _, .inl (.inl hp8)⟩, _, rfl, _, rfl, _, rfl, _, rfl, _, _, _, _, rfl, rfl, .inl (.inl hp8), (by rw [List.map_append]; exact atI_last _ _), a, ca, sg, v, rfl, S8, sg0, sgs, sgn, by omega, ov, fun u H9 ou lu B9 S9 => ?_⟩
        have hp9 := B9 _ _ npa hp8
        refine ⟨p, _, _, rfl, rfl, hp9, by rw [List.length_map, List.length_append]; exact Nat.lt_of_lt_of_le (by show ws0.length + 1 < 1000000; omega) (by decide), (ws0 ++ [v]) ++ [u], rfl, ?_, ?_, ?_, S9.put ⟨npa, npc⟩, ?_⟩
        · intro x hx
          rcases List.mem_append.mp hx with hx | hx
          · rcases List.mem_append.mp hx with hx | hx
            · have := (hw0 x hx).2
              omega
            · rw [List.mem_singleton.mp hx]
              omega
          · rw [List.mem_singleton.mp hx]
            omega
        · rw [List.length_append, List.length_append]
          show ws0.length + 1 + 1 ≤ 14
          omega
        · exact B3.grown np (B8.trans B9) hp9
        · rw [upd_same]
          simp only [List.map_append, List.map_cons, List.map_nil]
      · exact ⟨ws0, rfl, fun x hx => by have := (hw0 x hx).2; omega, by omega, (B3.trans B4).trans B5, S5, B5 _ _ npa hp0⟩
    rintro σ' H5 ⟨ws, rfl, hw, lw, B5, S5, hp5⟩
    have hw6 : ∀ x ∈ ws, x.length ≤ 1000000 := fun x hx => Nat.le_trans (hw x hx) (by decide)
    have lmap : (ws.map V.str).length = ws.length := List.length_map ..
    -- in order
    refine ⟨_, rfl, p, ws, rfl, hp5, by omega, hw6, fun H6 s6 => ⟨_, rfl, iteN rfl ?_⟩⟩
    refine ⟨_, rfl, _, rfl, a, ca, sg, 4, 3, rfl, S5.same s6, sg0, sgs, by decide, by decide, by decide, by decide, fun ws2 p2 H7 hw2 lw2 B7 S7 np2 _ _ hp2 => ⟨p2, ws2, rfl, hp2, by omega, fun x hx => by have := (hw2 x hx).2; omega, fun H8 s8 => ⟨_, rfl, iteN rfl ?_⟩⟩⟩
    have B8 := ((B5.trans (But.same s6)).trans B7).trans (But.same s8)
    have S8 := S7.same s8
    have hp8 := s8 _ _ (B7 _ _ npa (s6 _ _ hp5))
    refine ⟨_, rfl, _, rfl, a, ca, p, _, rfl, S8, npa, hp8, by rw [lmap]; omega, fun ys p3 H9 perm B9 S9 np3 _ _ hp3 => ?_⟩
    obtain ⟨us, rfl, pu⟩ := perm_strs perm
    refine ⟨p3, us, rfl, hp3, by rw [pu.length_eq]; omega, fun x hx => hw6 x (pu.mem_iff.mp hx), fun H10 s10 => ⟨_, rfl, iteN rfl ?_⟩⟩
    refine ⟨by show 0 ≤ sizeLine; decide, fun p4 np4 => ⟨p4, [], rfl, upd_same, by decide, fun x hx => absurd hx List.not_mem_nil, fun H11 s11 => ⟨_, rfl, iteN rfl ?_⟩⟩⟩
    have k11 : Same H10 H11 := (same_new np4).trans s11
    have B11 := ((B8.trans B9).trans (But.same s10)).trans (But.same k11)
    have S11 := (S9.same s10).same k11
    have hp11 := k11 _ _ (s10 _ _ (B9 _ _ npa hp8))
    -- twice as many
    refine ⟨_, rfl, _, rfl, _, rfl, p, p, _, _, rfl, rfl, hp11, hp11, by rw [lmap]; exact small_text (by omega), fun l nl => ?_⟩
    have k12 := same_new (o := .lst (ws.map V.str ++ ws.map V.str)) nl
    have hl : (upd H11 l (.lst (ws.map V.str ++ ws.map V.str))) l = some (.lst ((ws ++ ws).map V.str)) := by rw [upd_same, List.map_append]
    have S12 := S11.new (o := .lst (ws.map V.str ++ ws.map V.str)) nl
    have la := (S11.ne nl).1
    have hp12 := k12 _ _ hp11
    have B12 := B11.trans (But.same k12)
    generalize upd H11 l (.lst (ws.map V.str ++ ws.map V.str)) = H12 at hl S12 hp12 B12 ⊢
    refine ⟨a, ca, l, _, rfl, S12, la, hl, by rw [List.length_map, List.length_append]; omega, fun ys p5 H13 perm B13 S13 np5 _ _ hp5' => ?_⟩
    obtain ⟨us2, rfl, pu2⟩ := perm_strs perm
    refine ⟨p5, us2, rfl, hp5', by rw [pu2.length_eq, List.length_append]; omega, fun x hx => ?_, fun ws5 r5 H14 pw5 mem5 _ s14 _ hr5 => ?_⟩
    · rcases List.mem_append.mp (pu2.mem_iff.mp hx) with m | m <;> exact hw6 x m
    have hp14 := s14 _ _ (B13 _ _ npa hp12)
    refine ⟨_, rfl, p, ws, rfl, hp14, by omega, hw6, fun ws6 r6 H15 pw6 mem6 le6 s15 _ hr6 => ?_⟩
    have e56 : ws5 = ws6 := bef_unique pw5 pw6 fun y => by
      rw [mem5, mem6, pu2.mem_iff, List.mem_append]
      exact ⟨fun h => h.elim id id, .inl⟩
    subst e56
    refine ⟨_, _, rfl, same_strs (s15 _ _ hr5) hr6 (by omega), _, rfl, iteN rfl ?_⟩
    have hp15 := s15 _ _ hp14
    have S15 := (S13.same s14).same s15
    have B15 := ((B12.trans B13).trans (But.same s14)).trans (But.same s15)
    -- all words
    refine ⟨_, rfl, a, ca, 4, rfl, S15, by decide, fun d H16 d0 d1 B16 S16 => ?_⟩
    refine ⟨fun σ' H' => ∃ n : Nat, σ' = [some (.ref sc), some (.ref a), some (.str z), some (.str sg), some (.ref p), some (.int (n : Int)), none] ∧ n ≤ 6 ∧ But a H1 H' ∧ Sto H' a ca ∧ H' p = some (.lst (ws.map V.str)), ?_, ?_⟩
    · refine ⟨_, rfl, a, ca, 12, rfl, S16, by decide, fun e H17 e0 e1 B17 S17 => ⟨rfl, _, rfl, ite2 (fun _ => ?_) (fun _ => ?_)⟩⟩
      · refine ⟨_, rfl, a, ca, 0, 6, rfl, S17, by decide, fun r H18 r0 r1 B18 S18 => ?_⟩
        obtain ⟨n, rfl⟩ := Int.eq_ofNat_of_zero_le r0
        exact ⟨n, rfl, by omega, ((B15.trans B16).trans B17).trans B18, S18, B18 _ _ npa (B17 _ _ npa (B16 _ _ npa hp15))⟩
      · obtain ⟨n, rfl⟩ := Int.eq_ofNat_of_zero_le d0
        exact ⟨n, rfl, by omega, (B15.trans B16).trans B17, S17, B17 _ _ npa (B16 _ _ npa hp15)⟩
    rintro σ' H17 ⟨n, rfl, n6, B17, S17, hp17⟩
    have g17 := B17.good g1
    refine ⟨_, rfl, _, rfl, z, n, rfl, az, n6, g17, fun H18 s18 => ⟨_, rfl, iteN rfl ?_⟩⟩
    refine ⟨_, rfl, a, ca, 2, rfl, S17.same s18, fun z2 H19 az2 B19 S19 => ⟨_, rfl, a, ca, 4, rfl, S19, by decide, fun d2 H20 d20 d21 B20 S20 => ?_⟩⟩
    obtain ⟨n2, rfl⟩ := Int.eq_ofNat_of_zero_le d20
    have g20 := B20.good (B19.good (s18.good g17))
    refine ⟨z2, n2, rfl, az2, by omega, g20, fun H21 s21 => ⟨_, rfl, iteN rfl ?_⟩⟩
    have hp21 := s21 _ _ (B20 _ _ npa (B19 _ _ npa (s18 _ _ hp17)))
    have S21 := S20.same s21
    have g21 := s21.good g20
    -- turned words
    refine ⟨_, rfl, p, rfl, ⟨_, .inl (.inl hp21)⟩, for_list (K := K) (a := p) (xs := ws.map V.str) (fun i σ H' => (∃ y : Option V, σ = [some (.ref sc), some (.ref a), some (.str z), some (.str sg), some (.ref p), some (.int (n : Int)), y]) ∧ H' = H21) ⟨⟨none, rfl⟩, rfl⟩ (fun i σ H' _ h => .inl (.inl (by rw [h.2]; exact hp21))) ?_ ?_⟩
    · rintro i v σ H' hv ⟨⟨y, rfl⟩, rfl⟩
      obtain ⟨x, hx, rfl⟩ := List.mem_map.mp (List.mem_of_getElem? hv)
      exact ⟨_, rfl, x, rfl, Nat.le_trans (hw x hx) (by decide), _, rfl, iteN rfl ⟨⟨_, rfl⟩, rfl⟩⟩
    rintro σ H21' ⟨⟨y, rfl⟩, rfl⟩
    -- shown words
    have za : 0 < z.length := az.len1
    refine ⟨_, rfl, _, rfl, a, ca, z, 8, rfl, S21, za, az.small, by decide, fun v1 H22 ov1 lv1 B22 S22 => ⟨_, rfl, _, rfl, a, ca, z, 2, rfl, S22, za, az.small, by decide, fun v2 H23 ov2 lv2 B23 S23 => ⟨by show 3 ≤ sizeLine; decide, fun l3 nl3 => ?_⟩⟩⟩
    have k24 := same_new (o := .lst [.str (Str.ofString ""), .str v1, .str v2]) nl3
    have hl3 : (upd H23 l3 (.lst [.str (Str.ofString ""), .str v1, .str v2])) l3 = some (.lst [.str (Str.ofString ""), .str v1, .str v2]) := upd_same
    have g24 : Good (upd H23 l3 (.lst [.str (Str.ofString ""), .str v1, .str v2])) := k24.good (B23.good (B22.good g21))
    generalize upd H23 l3 (.lst [.str (Str.ofString ""), .str v1, .str v2]) = H24 at hl3 g24 ⊢
    refine ⟨l3, rfl, ⟨_, .inl (.inl hl3)⟩, for_list (K := K) (a := l3) (xs := [.str (Str.ofString ""), .str v1, .str v2]) (fun i σ H' => (∃ y : Option V, σ = [some (.ref sc), some (.ref a), some (.str z), some (.str sg), some (.ref p), some (.int (n : Int)), y]) ∧ Same H24 H') ⟨⟨_, rfl⟩, .refl _⟩ (fun i σ H' _ h => .inl (.inl (h.2 _ _ hl3))) ?_ ?_⟩
    · rintro i v σ H' hv ⟨⟨y, rfl⟩, sm⟩
      have : ∃ x : Str, v = .str x ∧ Over z x ∧ x.length ≤ 8 := by
        rcases List.mem_cons.mp (List.mem_of_getElem? hv) with e | m
        · exact ⟨_, e, Over.empty, by decide⟩
        rcases List.mem_cons.mp m with e | m
        · exact ⟨_, e, ov1, by rw [if_neg (by decide)] at lv1; omega⟩
        · exact ⟨_, List.mem_singleton.mp m, ov2, by rw [if_neg (by decide)] at lv2; omega⟩
      obtain ⟨x, rfl, ox, lx⟩ := this
      exact ⟨_, rfl, _, rfl, z, x, rfl, az, ox, by omega, sm.good g24, fun H25 s25 => ⟨_, rfl, iteN rfl ⟨_, rfl, x, rfl, by omega, _, rfl, iteN rfl ⟨⟨_, rfl⟩, sm.trans s25⟩⟩⟩⟩
    · rintro σ H25 ⟨⟨y, rfl⟩, sm⟩
      exact q H25

end
theorem all_mk {l : PySem.W.OpenLaw} {w : World} {K : PySem.W.Frag} {h : Heap} {mg : Str → Option Value} {names : List Str} {fa f0 f1 f2 f3 f4 f5 f6 f7 f8 f9 f10 f11 f12 f13 f14 f15 f16 f17 f18 f19 f20 f21 f22 f23 f24 f25 f26 f27 f28 f29 f30 f31 f32 f33 f34 f35 f36 f37 : Addr} (X : K.In h) (G : h.Ns mainGlobals mg) (hfa : mg "law" = some (.ref fa)) (E : Empty names K mg h)
    {od0 an0 od1 an1 od2 an2 od3 an3 od4 an4 od5 an5 od6 an6 od7 an7 od8 an8 od9 an9 od10 an10 od11 an11 od12 an12 od13 an13 od14 an14 od15 an15 od16 an16 od17 an17 od18 an18 od19 an19 od20 an20 od21 an21 od22 an22 od23 an23 od24 an24 od25 an25 od26 an26 od27 an27 od28 an28 od29 an29 od30 an30 od31 an31 od32 an32 od33 an33 od34 an34 od35 an35 od36 an36 od37 an37 : Option Addr} {sl0 sl1 sl2 sl3 sl4 sl5 sl6 sl7 sl8 sl9 sl10 sl11 sl12 sl13 sl14 sl15 sl16 sl17 sl18 sl19 sl20 sl21 sl22 sl23 sl24 sl25 sl26 sl27 sl28 sl29 sl30 sl31 sl32 sl33 sl34 sl35 sl36 sl37 : Array (Option Value)} {oc0 kV0 dc0 pm0 ct0 cd0 oc1 kV1 dc1 pm1 ct1 cd1 oc2 kV2 dc2 pm2 ct2 cd2 oc3 kV3 dc3 pm3 ct3 oc4 kV4 dc4 pm4 ct4 oc5 kV5 dc5 pm5 ct5 cd5 oc6 kV6 dc6 pm6 ct6 cd6 oc7 kV7 dc7 pm7 ct7 cd7 oc8 kV8 dc8 pm8 ct8 cd8 oc9 kV9 dc9 pm9 ct9 cd9 oc10 kV10 dc10 pm10 ct10 cd10 oc11 kV11 dc11 pm11 ct11 cd11 oc12 kV12 dc12 pm12 ct12 cd12 oc13 kV13 dc13 pm13 ct13 cd13 oc14 kV14 dc14 pm14 ct14 cd14 oc15 kV15 dc15 pm15 ct15 cd15 oc16 kV16 dc16 pm16 ct16 cd16 oc17 kV17 dc17 pm17 ct17 cd17 oc18 kV18 dc18 pm18 ct18 cd18 oc19 kV19 dc19 pm19 ct19 cd19 oc20 kV20 dc20 pm20 ct20 cd20 oc21 kV21 dc21 pm21 ct21 cd21 oc22 kV22 dc22 pm22 ct22 cd22 oc23 kV23 dc23 pm23 ct23 cd23 oc24 kV24 dc24 pm24 ct24 cd24 oc25 kV25 dc25 pm25 ct25 cd25 oc26 kV26 dc26 pm26 ct26 cd26 oc27 kV27 dc27 pm27 ct27 cd27 oc28 kV28 dc28 pm28 ct28 cd28 oc29 kV29 dc29 pm29 ct29 cd29 oc30 kV30 dc30 pm30 ct30 cd30 oc31 kV31 dc31 pm31 ct31 cd31 oc32 kV32 dc32 pm32 ct32 cd32 oc33 kV33 dc33 pm33 ct33 cd33 oc34 kV34 dc34 pm34 ct34 cd34 oc35 kV35 dc35 pm35 ct35 cd35 oc36 kV36 dc36 pm36 ct36 cd36 oc37 kV37 dc37 pm37 ct37 cd37 : Value}
    {c3 P3 c4 P4 : Addr} {vd3 vd4 : Option Addr} {vl3 vl4 : Array (Option Value)} {vs3 vs4 : Array Value} {ve3 ve4 : Value}
    (a0 : PySem.W.nsIn K mainGlobals "is_whole" = some (some (.ref f0))) (l0 : K.lookup f0 = some ⟨oc0, od0, .func (PySem.W.fnOf "is_whole" "is_whole" (defArgs s_is_whole) (defBody s_is_whole) (defScope s_is_whole) .none kV0 dc0 pm0 an0 cd0 ct0), sl0⟩) (k0 : PySem.W.keepIn K (.ref f0) = true) (c_0 : PySem.W.codeIn K cd0 "is_whole" = true)
    (a1 : PySem.W.nsIn K mainGlobals "in_range" = some (some (.ref f1))) (l1 : K.lookup f1 = some ⟨oc1, od1, .func (PySem.W.fnOf "in_range" "in_range" (defArgs s_in_range) (defBody s_in_range) (defScope s_in_range) .none kV1 dc1 pm1 an1 cd1 ct1), sl1⟩) (k1 : PySem.W.keepIn K (.ref f1) = true) (c_1 : PySem.W.codeIn K cd1 "in_range" = true)
    (a2 : PySem.W.nsIn K mainGlobals "check_number" = some (some (.ref f2))) (l2 : K.lookup f2 = some ⟨oc2, od2, .func (PySem.W.fnOf "check_number" "check_number" (defArgs s_check_number) (defBody s_check_number) (defScope s_check_number) .none kV2 dc2 pm2 an2 cd2 ct2), sl2⟩) (k2 : PySem.W.keepIn K (.ref f2) = true) (c_2 : PySem.W.codeIn K cd2 "check_number" = true)
    (a3 : PySem.W.nsIn K mainGlobals "is_letters" = some (some (.ref f3))) (l3 : K.lookup f3 = some ⟨oc3, od3, .func (PySem.W.fnOf "is_letters" "is_letters" (defArgs s_is_letters) (defBody s_is_letters) (defScope s_is_letters) .none kV3 dc3 pm3 an3 (.ref c3) ct3), sl3⟩) (k3 : PySem.W.keepIn K (.ref f3) = true) (c_3 : PySem.W.codeIn K (.ref c3) "is_letters" = true)
    (r3 : K.lookup c3 = some ⟨ve3, vd3, .fields vs3, vl3⟩) (p3 : vs3[11]? = some (.ref P3)) (n3 : K.lookup P3 = none)
    (h3 : PySem.W.codeHdIn K c3 P3 = true) (y3 : Str.ofString "is_letters" ∈ names)
    (a4 : PySem.W.nsIn K mainGlobals "is_word" = some (some (.ref f4))) (l4 : K.lookup f4 = some ⟨oc4, od4, .func (PySem.W.fnOf "is_word" "is_word" (defArgs s_is_word) (defBody s_is_word) (defScope s_is_word) .none kV4 dc4 pm4 an4 (.ref c4) ct4), sl4⟩) (k4 : PySem.W.keepIn K (.ref f4) = true) (c_4 : PySem.W.codeIn K (.ref c4) "is_word" = true)
    (r4 : K.lookup c4 = some ⟨ve4, vd4, .fields vs4, vl4⟩) (p4 : vs4[11]? = some (.ref P4)) (n4 : K.lookup P4 = none)
    (h4 : PySem.W.codeHdIn K c4 P4 = true) (y4 : Str.ofString "is_word" ∈ names)
    (a5 : PySem.W.nsIn K mainGlobals "is_word_up_to" = some (some (.ref f5))) (l5 : K.lookup f5 = some ⟨oc5, od5, .func (PySem.W.fnOf "is_word_up_to" "is_word_up_to" (defArgs s_is_word_up_to) (defBody s_is_word_up_to) (defScope s_is_word_up_to) .none kV5 dc5 pm5 an5 cd5 ct5), sl5⟩) (k5 : PySem.W.keepIn K (.ref f5) = true) (c_5 : PySem.W.codeIn K cd5 "is_word_up_to" = true)
    (a6 : PySem.W.nsIn K mainGlobals "check_letters" = some (some (.ref f6))) (l6 : K.lookup f6 = some ⟨oc6, od6, .func (PySem.W.fnOf "check_letters" "check_letters" (defArgs s_check_letters) (defBody s_check_letters) (defScope s_check_letters) .none kV6 dc6 pm6 an6 cd6 ct6), sl6⟩) (k6 : PySem.W.keepIn K (.ref f6) = true) (c_6 : PySem.W.codeIn K cd6 "check_letters" = true)
    (a7 : PySem.W.nsIn K mainGlobals "word_key" = some (some (.ref f7))) (l7 : K.lookup f7 = some ⟨oc7, od7, .func (PySem.W.fnOf "word_key" "word_key" (defArgs s_word_key) (defBody s_word_key) (defScope s_word_key) .none kV7 dc7 pm7 an7 cd7 ct7), sl7⟩) (k7 : PySem.W.keepIn K (.ref f7) = true) (c_7 : PySem.W.codeIn K cd7 "word_key" = true)
    (a8 : PySem.W.nsIn K mainGlobals "sort_words" = some (some (.ref f8))) (l8 : K.lookup f8 = some ⟨oc8, od8, .func (PySem.W.fnOf "sort_words" "sort_words" (defArgs s_sort_words) (defBody s_sort_words) (defScope s_sort_words) .none kV8 dc8 pm8 an8 cd8 ct8), sl8⟩) (k8 : PySem.W.keepIn K (.ref f8) = true) (c_8 : PySem.W.codeIn K cd8 "sort_words" = true)
    (a9 : PySem.W.nsIn K mainGlobals "first_word" = some (some (.ref f9))) (l9 : K.lookup f9 = some ⟨oc9, od9, .func (PySem.W.fnOf "first_word" "first_word" (defArgs s_first_word) (defBody s_first_word) (defScope s_first_word) .none kV9 dc9 pm9 an9 cd9 ct9), sl9⟩) (k9 : PySem.W.keepIn K (.ref f9) = true) (c_9 : PySem.W.codeIn K cd9 "first_word" = true)
    (a10 : PySem.W.nsIn K mainGlobals "all_words" = some (some (.ref f10))) (l10 : K.lookup f10 = some ⟨oc10, od10, .func (PySem.W.fnOf "all_words" "all_words" (defArgs s_all_words) (defBody s_all_words) (defScope s_all_words) .none kV10 dc10 pm10 an10 cd10 ct10), sl10⟩) (k10 : PySem.W.keepIn K (.ref f10) = true) (c_10 : PySem.W.codeIn K cd10 "all_words" = true)
    (a11 : PySem.W.nsIn K mainGlobals "turn_word" = some (some (.ref f11))) (l11 : K.lookup f11 = some ⟨oc11, od11, .func (PySem.W.fnOf "turn_word" "turn_word" (defArgs s_turn_word) (defBody s_turn_word) (defScope s_turn_word) .none kV11 dc11 pm11 an11 cd11 ct11), sl11⟩) (k11 : PySem.W.keepIn K (.ref f11) = true) (c_11 : PySem.W.codeIn K cd11 "turn_word" = true)
    (a12 : PySem.W.nsIn K mainGlobals "show_word" = some (some (.ref f12))) (l12 : K.lookup f12 = some ⟨oc12, od12, .func (PySem.W.fnOf "show_word" "show_word" (defArgs s_show_word) (defBody s_show_word) (defScope s_show_word) .none kV12 dc12 pm12 an12 cd12 ct12), sl12⟩) (k12 : PySem.W.keepIn K (.ref f12) = true) (c_12 : PySem.W.codeIn K cd12 "show_word" = true)
    (a13 : PySem.W.nsIn K mainGlobals "shown_word" = some (some (.ref f13))) (l13 : K.lookup f13 = some ⟨oc13, od13, .func (PySem.W.fnOf "shown_word" "shown_word" (defArgs s_shown_word) (defBody s_shown_word) (defScope s_shown_word) .none kV13 dc13 pm13 an13 cd13 ct13), sl13⟩) (k13 : PySem.W.keepIn K (.ref f13) = true) (c_13 : PySem.W.codeIn K cd13 "shown_word" = true)
    (a14 : PySem.W.nsIn K mainGlobals "read_shown" = some (some (.ref f14))) (l14 : K.lookup f14 = some ⟨oc14, od14, .func (PySem.W.fnOf "read_shown" "read_shown" (defArgs s_read_shown) (defBody s_read_shown) (defScope s_read_shown) .none kV14 dc14 pm14 an14 cd14 ct14), sl14⟩) (k14 : PySem.W.keepIn K (.ref f14) = true) (c_14 : PySem.W.codeIn K cd14 "read_shown" = true)
    (a15 : PySem.W.nsIn K mainGlobals "_law_mix" = some (some (.ref f15))) (l15 : K.lookup f15 = some ⟨oc15, od15, .func (PySem.W.fnOf "_law_mix" "_law_mix" (defArgs s_mix) (defBody s_mix) (defScope s_mix) .none kV15 dc15 pm15 an15 cd15 ct15), sl15⟩) (k15 : PySem.W.keepIn K (.ref f15) = true) (c_15 : PySem.W.codeIn K cd15 "_law_mix" = true)
    (a16 : PySem.W.nsIn K mainGlobals "_law_store" = some (some (.ref f16))) (l16 : K.lookup f16 = some ⟨oc16, od16, .func (PySem.W.fnOf "_law_store" "_law_store" (defArgs s_store) (defBody s_store) (defScope s_store) .none kV16 dc16 pm16 an16 cd16 ct16), sl16⟩) (k16 : PySem.W.keepIn K (.ref f16) = true) (c_16 : PySem.W.codeIn K cd16 "_law_store" = true)
    (a17 : PySem.W.nsIn K mainGlobals "_law_take" = some (some (.ref f17))) (l17 : K.lookup f17 = some ⟨oc17, od17, .func (PySem.W.fnOf "_law_take" "_law_take" (defArgs s_take) (defBody s_take) (defScope s_take) .none kV17 dc17 pm17 an17 cd17 ct17), sl17⟩) (k17 : PySem.W.keepIn K (.ref f17) = true) (c_17 : PySem.W.codeIn K cd17 "_law_take" = true)
    (a18 : PySem.W.nsIn K mainGlobals "_law_pick" = some (some (.ref f18))) (l18 : K.lookup f18 = some ⟨oc18, od18, .func (PySem.W.fnOf "_law_pick" "_law_pick" (defArgs s_pick) (defBody s_pick) (defScope s_pick) .none kV18 dc18 pm18 an18 cd18 ct18), sl18⟩) (k18 : PySem.W.keepIn K (.ref f18) = true) (c_18 : PySem.W.codeIn K cd18 "_law_pick" = true)
    (a19 : PySem.W.nsIn K mainGlobals "_law_between" = some (some (.ref f19))) (l19 : K.lookup f19 = some ⟨oc19, od19, .func (PySem.W.fnOf "_law_between" "_law_between" (defArgs s_between) (defBody s_between) (defScope s_between) .none kV19 dc19 pm19 an19 cd19 ct19), sl19⟩) (k19 : PySem.W.keepIn K (.ref f19) = true) (c_19 : PySem.W.codeIn K cd19 "_law_between" = true)
    (a20 : PySem.W.nsIn K mainGlobals "_law_order" = some (some (.ref f20))) (l20 : K.lookup f20 = some ⟨oc20, od20, .func (PySem.W.fnOf "_law_order" "_law_order" (defArgs s_order) (defBody s_order) (defScope s_order) .none kV20 dc20 pm20 an20 cd20 ct20), sl20⟩) (k20 : PySem.W.keepIn K (.ref f20) = true) (c_20 : PySem.W.codeIn K cd20 "_law_order" = true)
    (a21 : PySem.W.nsIn K mainGlobals "_law_turned" = some (some (.ref f21))) (l21 : K.lookup f21 = some ⟨oc21, od21, .func (PySem.W.fnOf "_law_turned" "_law_turned" (defArgs s_turned) (defBody s_turned) (defScope s_turned) .none kV21 dc21 pm21 an21 cd21 ct21), sl21⟩) (k21 : PySem.W.keepIn K (.ref f21) = true) (c_21 : PySem.W.codeIn K cd21 "_law_turned" = true)
    (a22 : PySem.W.nsIn K mainGlobals "_law_letters" = some (some (.ref f22))) (l22 : K.lookup f22 = some ⟨oc22, od22, .func (PySem.W.fnOf "_law_letters" "_law_letters" (defArgs s_letters) (defBody s_letters) (defScope s_letters) .none kV22 dc22 pm22 an22 cd22 ct22), sl22⟩) (k22 : PySem.W.keepIn K (.ref f22) = true) (c_22 : PySem.W.codeIn K cd22 "_law_letters" = true)
    (a23 : PySem.W.nsIn K mainGlobals "_law_word" = some (some (.ref f23))) (l23 : K.lookup f23 = some ⟨oc23, od23, .func (PySem.W.fnOf "_law_word" "_law_word" (defArgs s_word) (defBody s_word) (defScope s_word) .none kV23 dc23 pm23 an23 cd23 ct23), sl23⟩) (k23 : PySem.W.keepIn K (.ref f23) = true) (c_23 : PySem.W.codeIn K cd23 "_law_word" = true)
    (a24 : PySem.W.nsIn K mainGlobals "_law_long_word" = some (some (.ref f24))) (l24 : K.lookup f24 = some ⟨oc24, od24, .func (PySem.W.fnOf "_law_long_word" "_law_long_word" (defArgs s_long_word) (defBody s_long_word) (defScope s_long_word) .none kV24 dc24 pm24 an24 cd24 ct24), sl24⟩) (k24 : PySem.W.keepIn K (.ref f24) = true) (c_24 : PySem.W.codeIn K cd24 "_law_long_word" = true)
    (a25 : PySem.W.nsIn K mainGlobals "_law_unlike_word" = some (some (.ref f25))) (l25 : K.lookup f25 = some ⟨oc25, od25, .func (PySem.W.fnOf "_law_unlike_word" "_law_unlike_word" (defArgs s_unlike_word) (defBody s_unlike_word) (defScope s_unlike_word) .none kV25 dc25 pm25 an25 cd25 ct25), sl25⟩) (k25 : PySem.W.keepIn K (.ref f25) = true) (c_25 : PySem.W.codeIn K cd25 "_law_unlike_word" = true)
    (a26 : PySem.W.nsIn K mainGlobals "_law_words" = some (some (.ref f26))) (l26 : K.lookup f26 = some ⟨oc26, od26, .func (PySem.W.fnOf "_law_words" "_law_words" (defArgs s_words) (defBody s_words) (defScope s_words) .none kV26 dc26 pm26 an26 cd26 ct26), sl26⟩) (k26 : PySem.W.keepIn K (.ref f26) = true) (c_26 : PySem.W.codeIn K cd26 "_law_words" = true)
    (a27 : PySem.W.nsIn K mainGlobals "_law_same" = some (some (.ref f27))) (l27 : K.lookup f27 = some ⟨oc27, od27, .func (PySem.W.fnOf "_law_same" "_law_same" (defArgs s_same) (defBody s_same) (defScope s_same) .none kV27 dc27 pm27 an27 cd27 ct27), sl27⟩) (k27 : PySem.W.keepIn K (.ref f27) = true) (c_27 : PySem.W.codeIn K cd27 "_law_same" = true)
    (a28 : PySem.W.nsIn K mainGlobals "_law_lists" = some (some (.ref f28))) (l28 : K.lookup f28 = some ⟨oc28, od28, .func (PySem.W.fnOf "_law_lists" "_law_lists" (defArgs s_lists) (defBody s_lists) (defScope s_lists) .none kV28 dc28 pm28 an28 cd28 ct28), sl28⟩) (k28 : PySem.W.keepIn K (.ref f28) = true) (c_28 : PySem.W.codeIn K cd28 "_law_lists" = true)
    (a29 : PySem.W.nsIn K mainGlobals "_law_wreck" = some (some (.ref f29))) (l29 : K.lookup f29 = some ⟨oc29, od29, .func (PySem.W.fnOf "_law_wreck" "_law_wreck" (defArgs s_wreck) (defBody s_wreck) (defScope s_wreck) .none kV29 dc29 pm29 an29 cd29 ct29), sl29⟩) (k29 : PySem.W.keepIn K (.ref f29) = true) (c_29 : PySem.W.codeIn K cd29 "_law_wreck" = true)
    (a30 : PySem.W.nsIn K mainGlobals "_law_next_word" = some (some (.ref f30))) (l30 : K.lookup f30 = some ⟨oc30, od30, .func (PySem.W.fnOf "_law_next_word" "_law_next_word" (defArgs s_next_word) (defBody s_next_word) (defScope s_next_word) .none kV30 dc30 pm30 an30 cd30 ct30), sl30⟩) (k30 : PySem.W.keepIn K (.ref f30) = true) (c_30 : PySem.W.codeIn K cd30 "_law_next_word" = true)
    (a31 : PySem.W.nsIn K mainGlobals "_law_before" = some (some (.ref f31))) (l31 : K.lookup f31 = some ⟨oc31, od31, .func (PySem.W.fnOf "_law_before" "_law_before" (defArgs s_before) (defBody s_before) (defScope s_before) .none kV31 dc31 pm31 an31 cd31 ct31), sl31⟩) (k31 : PySem.W.keepIn K (.ref f31) = true) (c_31 : PySem.W.codeIn K cd31 "_law_before" = true)
    (a32 : PySem.W.nsIn K mainGlobals "_law_list_of_words" = some (some (.ref f32))) (l32 : K.lookup f32 = some ⟨oc32, od32, .func (PySem.W.fnOf "_law_list_of_words" "_law_list_of_words" (defArgs s_list_of_words) (defBody s_list_of_words) (defScope s_list_of_words) .none kV32 dc32 pm32 an32 cd32 ct32), sl32⟩) (k32 : PySem.W.keepIn K (.ref f32) = true) (c_32 : PySem.W.codeIn K cd32 "_law_list_of_words" = true)
    (a33 : PySem.W.nsIn K mainGlobals "_law_sorted_right" = some (some (.ref f33))) (l33 : K.lookup f33 = some ⟨oc33, od33, .func (PySem.W.fnOf "_law_sorted_right" "_law_sorted_right" (defArgs s_sorted_right) (defBody s_sorted_right) (defScope s_sorted_right) .none kV33 dc33 pm33 an33 cd33 ct33), sl33⟩) (k33 : PySem.W.keepIn K (.ref f33) = true) (c_33 : PySem.W.codeIn K cd33 "_law_sorted_right" = true)
    (a34 : PySem.W.nsIn K mainGlobals "_law_all_right" = some (some (.ref f34))) (l34 : K.lookup f34 = some ⟨oc34, od34, .func (PySem.W.fnOf "_law_all_right" "_law_all_right" (defArgs s_all_right) (defBody s_all_right) (defScope s_all_right) .none kV34 dc34 pm34 an34 cd34 ct34), sl34⟩) (k34 : PySem.W.keepIn K (.ref f34) = true) (c_34 : PySem.W.codeIn K cd34 "_law_all_right" = true)
    (a35 : PySem.W.nsIn K mainGlobals "_law_turned_right" = some (some (.ref f35))) (l35 : K.lookup f35 = some ⟨oc35, od35, .func (PySem.W.fnOf "_law_turned_right" "_law_turned_right" (defArgs s_turned_right) (defBody s_turned_right) (defScope s_turned_right) .none kV35 dc35 pm35 an35 cd35 ct35), sl35⟩) (k35 : PySem.W.keepIn K (.ref f35) = true) (c_35 : PySem.W.codeIn K cd35 "_law_turned_right" = true)
    (a36 : PySem.W.nsIn K mainGlobals "_law_shown_right" = some (some (.ref f36))) (l36 : K.lookup f36 = some ⟨oc36, od36, .func (PySem.W.fnOf "_law_shown_right" "_law_shown_right" (defArgs s_shown_right) (defBody s_shown_right) (defScope s_shown_right) .none kV36 dc36 pm36 an36 cd36 ct36), sl36⟩) (k36 : PySem.W.keepIn K (.ref f36) = true) (c_36 : PySem.W.codeIn K cd36 "_law_shown_right" = true)
    (a37 : PySem.W.nsIn K mainGlobals "law" = some (some (.ref f37))) (l37 : K.lookup f37 = some ⟨oc37, od37, .func (PySem.W.fnOf "law" "law" (defArgs s_law) (defBody s_law) (defScope s_law) .none kV37 dc37 pm37 an37 cd37 ct37), sl37⟩) (k37 : PySem.W.keepIn K (.ref f37) = true) (c_37 : PySem.W.codeIn K cd37 "law" = true)
    {eC0 eC1 eI1 eC2 eI2 eC3 eI3 : Addr}
    (sp1 : PySem.W.specialIn K (.builtin "object.__class__") "__get__" = some (some (.builtin "getset_descriptor.__get__"))) (sp2 : PySem.W.takesIn K (.builtin "object.__class__") = some true)
    (ea0 : PySem.W.nsIn K mainGlobals "LagError" = some (some (.ref eC0))) {enm0 : _} {eq0 : _} {eN0 : _} {ebs0 : _} {ebm0 : _} {esn0 : _} {esub0 : _} {eab0 : _} {ecol0 : _} {edd0 : _} {ek00 : _} {ek10 : _} {ek20 : _} {ek30 : _} {ek50 : _} (el0 : K.lookup eC0 = some (excClassObj enm0 eq0 eC0 eN0 ebs0 ebm0 true esn0 esub0 eab0 ecol0 edd0 ek00 ek10 ek20 ek30 ek50 "ValueError.__new__")) (er0 : PySem.HandSPX.refsVE ebm0 = true)
    (esa0 : PySem.W.findIn K (.ref eC0) "__setattr__" = some (some (.builtin "object.__setattr__")))
    (eex0 : PySem.W.subIn K (.ref eC0) (.type "BaseException") = some true)
    (ety0 : PySem.W.typeIn K (.ref eC0) = some (.type "type"))
    (ekp0 : PySem.W.keepIn K (.ref eC0) = true)
    (ega0 : PySem.W.findIn K (.ref eC0) "__getattribute__" = some (some (.builtin "BaseException.__getattribute__")))
    (egg0 : PySem.W.findIn K (.ref eC0) "__getattr__" = some none)
    (ehd0 : PySem.W.hasDictIn K eC0 = true)
    (eca0 : PySem.W.findIn K (.ref eC0) "__class__" = some (some (.builtin "object.__class__")))
    (emr0 : PySem.W.mroIn K eC0 (.type "object") = some true)
    (ea1 : PySem.W.nsIn K mainGlobals "BadLetters" = some (some (.ref eC1))) {enm1 : _} {eq1 : _} {eN1 : _} {ebs1 : _} {ebm1 : _} {esn1 : _} {esub1 : _} {eab1 : _} {ecol1 : _} {edd1 : _} {ek01 : _} {ek11 : _} {ek21 : _} {ek31 : _} {ek51 : _} (el1 : K.lookup eC1 = some (excClassObj enm1 eq1 eC1 eN1 ebs1 ebm1 true esn1 esub1 eab1 ecol1 edd1 ek01 ek11 ek21 ek31 ek51 "ValueError.__new__")) (er1 : PySem.HandSPX.refsVE ebm1 = true)
    (esa1 : PySem.W.findIn K (.ref eC1) "__setattr__" = some (some (.builtin "object.__setattr__")))
    (eex1 : PySem.W.subIn K (.ref eC1) (.type "BaseException") = some true)
    (ety1 : PySem.W.typeIn K (.ref eC1) = some (.type "type"))
    (ekp1 : PySem.W.keepIn K (.ref eC1) = true)
    (ega1 : PySem.W.findIn K (.ref eC1) "__getattribute__" = some (some (.builtin "BaseException.__getattribute__")))
    (egg1 : PySem.W.findIn K (.ref eC1) "__getattr__" = some none)
    (ehd1 : PySem.W.hasDictIn K eC1 = true)
    (eca1 : PySem.W.findIn K (.ref eC1) "__class__" = some (some (.builtin "object.__class__")))
    (emr1 : PySem.W.mroIn K eC1 (.type "object") = some true)
    {eod1 ean1 : Option Addr} {esl1 : Array (Option Value)} {eoc1 ekV1 edc1 epm1 ecd1 ect1 : Value} (iI1 : PySem.W.findIn K (.ref eC1) "__init__" = some (some (.ref eI1))) (tI1 : PySem.W.typeIn K (.ref eI1) = some (.type "function"))
    (lI1 : K.lookup eI1 = some ⟨eoc1, eod1, .func (PySem.W.fnOf "__init__" "BadLetters.__init__" (defArgs si_BadLetters) (defBody si_BadLetters) (defScope si_BadLetters) .none ekV1 edc1 epm1 ean1 ecd1 ect1), esl1⟩) (cI1 : PySem.W.codeIn K ecd1 "BadLetters.__init__" = true) (kI1 : PySem.W.keepIn K (.ref eI1) = true)
    (eno1_value : PySem.W.findIn K (.ref eC1) "value" = some none)
    (ea2 : PySem.W.nsIn K mainGlobals "BadWord" = some (some (.ref eC2))) {enm2 : _} {eq2 : _} {eN2 : _} {ebs2 : _} {ebm2 : _} {esn2 : _} {esub2 : _} {eab2 : _} {ecol2 : _} {edd2 : _} {ek02 : _} {ek12 : _} {ek22 : _} {ek32 : _} {ek52 : _} (el2 : K.lookup eC2 = some (excClassObj enm2 eq2 eC2 eN2 ebs2 ebm2 true esn2 esub2 eab2 ecol2 edd2 ek02 ek12 ek22 ek32 ek52 "ValueError.__new__")) (er2 : PySem.HandSPX.refsVE ebm2 = true)
    (esa2 : PySem.W.findIn K (.ref eC2) "__setattr__" = some (some (.builtin "object.__setattr__")))
    (eex2 : PySem.W.subIn K (.ref eC2) (.type "BaseException") = some true)
    (ety2 : PySem.W.typeIn K (.ref eC2) = some (.type "type"))
    (ekp2 : PySem.W.keepIn K (.ref eC2) = true)
    (ega2 : PySem.W.findIn K (.ref eC2) "__getattribute__" = some (some (.builtin "BaseException.__getattribute__")))
    (egg2 : PySem.W.findIn K (.ref eC2) "__getattr__" = some none)
    (ehd2 : PySem.W.hasDictIn K eC2 = true)
    (eca2 : PySem.W.findIn K (.ref eC2) "__class__" = some (some (.builtin "object.__class__")))
    (emr2 : PySem.W.mroIn K eC2 (.type "object") = some true)
    {eod2 ean2 : Option Addr} {esl2 : Array (Option Value)} {eoc2 ekV2 edc2 epm2 ecd2 ect2 : Value} (iI2 : PySem.W.findIn K (.ref eC2) "__init__" = some (some (.ref eI2))) (tI2 : PySem.W.typeIn K (.ref eI2) = some (.type "function"))
    (lI2 : K.lookup eI2 = some ⟨eoc2, eod2, .func (PySem.W.fnOf "__init__" "BadWord.__init__" (defArgs si_BadWord) (defBody si_BadWord) (defScope si_BadWord) .none ekV2 edc2 epm2 ean2 ecd2 ect2), esl2⟩) (cI2 : PySem.W.codeIn K ecd2 "BadWord.__init__" = true) (kI2 : PySem.W.keepIn K (.ref eI2) = true)
    (eno2_value : PySem.W.findIn K (.ref eC2) "value" = some none)
    (ea3 : PySem.W.nsIn K mainGlobals "BadNumber" = some (some (.ref eC3))) {enm3 : _} {eq3 : _} {eN3 : _} {ebs3 : _} {ebm3 : _} {esn3 : _} {esub3 : _} {eab3 : _} {ecol3 : _} {edd3 : _} {ek03 : _} {ek13 : _} {ek23 : _} {ek33 : _} {ek53 : _} (el3 : K.lookup eC3 = some (excClassObj enm3 eq3 eC3 eN3 ebs3 ebm3 true esn3 esub3 eab3 ecol3 edd3 ek03 ek13 ek23 ek33 ek53 "ValueError.__new__")) (er3 : PySem.HandSPX.refsVE ebm3 = true)
    (esa3 : PySem.W.findIn K (.ref eC3) "__setattr__" = some (some (.builtin "object.__setattr__")))
    (eex3 : PySem.W.subIn K (.ref eC3) (.type "BaseException") = some true)
    (ety3 : PySem.W.typeIn K (.ref eC3) = some (.type "type"))
    (ekp3 : PySem.W.keepIn K (.ref eC3) = true)
    (ega3 : PySem.W.findIn K (.ref eC3) "__getattribute__" = some (some (.builtin "BaseException.__getattribute__")))
    (egg3 : PySem.W.findIn K (.ref eC3) "__getattr__" = some none)
    (ehd3 : PySem.W.hasDictIn K eC3 = true)
    (eca3 : PySem.W.findIn K (.ref eC3) "__class__" = some (some (.builtin "object.__class__")))
    (emr3 : PySem.W.mroIn K eC3 (.type "object") = some true)
    {eod3 ean3 : Option Addr} {esl3 : Array (Option Value)} {eoc3 ekV3 edc3 epm3 ecd3 ect3 : Value} (iI3 : PySem.W.findIn K (.ref eC3) "__init__" = some (some (.ref eI3))) (tI3 : PySem.W.typeIn K (.ref eI3) = some (.type "function"))
    (lI3 : K.lookup eI3 = some ⟨eoc3, eod3, .func (PySem.W.fnOf "__init__" "BadNumber.__init__" (defArgs si_BadNumber) (defBody si_BadNumber) (defScope si_BadNumber) .none ekV3 edc3 epm3 ean3 ecd3 ect3), esl3⟩) (cI3 : PySem.W.codeIn K ecd3 "BadNumber.__init__" = true) (kI3 : PySem.W.keepIn K (.ref eI3) = true)
    (eno3_value : PySem.W.findIn K (.ref eC3) "value" = some none)
    (z_ValueError : PySem.W.nsIn K mainGlobals "ValueError" = some none)
    (z_all : PySem.W.nsIn K mainGlobals "all" = some none)
    (z_bool : PySem.W.nsIn K mainGlobals "bool" = some none)
    (z_int : PySem.W.nsIn K mainGlobals "int" = some none)
    (z_isinstance : PySem.W.nsIn K mainGlobals "isinstance" = some none)
    (z_len : PySem.W.nsIn K mainGlobals "len" = some none)
    (z_list : PySem.W.nsIn K mainGlobals "list" = some none)
    (z_max : PySem.W.nsIn K mainGlobals "max" = some none)
    (z_min : PySem.W.nsIn K mainGlobals "min" = some none)
    (z_range : PySem.W.nsIn K mainGlobals "range" = some none)
    (z_set : PySem.W.nsIn K mainGlobals "set" = some none)
    (z_sorted : PySem.W.nsIn K mainGlobals "sorted" = some none)
    (z_str : PySem.W.nsIn K mainGlobals "str" = some none)
    (z_tuple : PySem.W.nsIn K mainGlobals "tuple" = some none)
    {t_MAX_LETTERS : Tok} (c_MAX_LETTERS : PySem.W.nsIn K mainGlobals "MAX_LETTERS" = some (some (.int 4 t_MAX_LETTERS)))
    {t_MAX_READ : Tok} (c_MAX_READ : PySem.W.nsIn K mainGlobals "MAX_READ" = some (some (.int 4000 t_MAX_READ)))
    {t_SMALL_LETTERS : Tok} (c_SMALL_LETTERS : PySem.W.nsIn K mainGlobals "SMALL_LETTERS" = some (some (.str "abcdefghijklmnopqrstuvwxyz" t_SMALL_LETTERS)))
    {t_MAX_ALL_WORDS : Tok} (c_MAX_ALL_WORDS : PySem.W.nsIn K mainGlobals "MAX_ALL_WORDS" = some (some (.int 6 t_MAX_ALL_WORDS)))
    (one : ∀ p ∈ ([(P3, (Str.ofString "is_letters" ++ ".<locals>.") ++ "<genexpr>"), (P4, (Str.ofString "is_word" ++ ".<locals>.") ++ "<genexpr>")] : List (Addr × Str)), ∀ q ∈ ([(P3, (Str.ofString "is_letters" ++ ".<locals>.") ++ "<genexpr>"), (P4, (Str.ofString "is_word" ++ ".<locals>.") ++ "<genexpr>")] : List (Addr × Str)), p.1 = q.1 → p.2 = q.2) : LamX.LawAtS l w K CX0 (11 + 1) 63 "script" mg fa h := by
  have e := hfa.symm.trans (PySem.W.mg_of X G a37)
  cases e
  have F0 := fun_mk (st := s_is_whole) l0 c_0 k0
  have b0 := F0.binds (ps := ["value"]) fun _ _ _ _ _ _ us hl => match us, hl with | [_], _ => rfl
  have F1 := fun_mk (st := s_in_range) l1 c_1 k1
  have b1 := F1.binds (ps := ["value", "low", "high"]) fun _ _ _ _ _ _ us hl => match us, hl with | [_, _, _], _ => rfl
  have F2 := fun_mk (st := s_check_number) l2 c_2 k2
  have b2 := F2.binds (ps := ["value", "low", "high"]) fun _ _ _ _ _ _ us hl => match us, hl with | [_, _, _], _ => rfl
  have F3 := fun_mk (st := s_is_letters) l3 c_3 k3
  have b3 := F3.binds (ps := ["value"]) fun _ _ _ _ _ _ us hl => match us, hl with | [_], _ => rfl
  have F4 := fun_mk (st := s_is_word) l4 c_4 k4
  have b4 := F4.binds (ps := ["letters", "value"]) fun _ _ _ _ _ _ us hl => match us, hl with | [_, _], _ => rfl
  have F5 := fun_mk (st := s_is_word_up_to) l5 c_5 k5
  have b5 := F5.binds (ps := ["letters", "value", "most"]) fun _ _ _ _ _ _ us hl => match us, hl with | [_, _, _], _ => rfl
  have F6 := fun_mk (st := s_check_letters) l6 c_6 k6
  have b6 := F6.binds (ps := ["letters"]) fun _ _ _ _ _ _ us hl => match us, hl with | [_], _ => rfl
  have F7 := fun_mk (st := s_word_key) l7 c_7 k7
  have b7 := F7.binds (ps := ["word"]) fun _ _ _ _ _ _ us hl => match us, hl with | [_], _ => rfl
  have F8 := fun_mk (st := s_sort_words) l8 c_8 k8
  have b8 := F8.binds (ps := ["words"]) fun _ _ _ _ _ _ us hl => match us, hl with | [_], _ => rfl
  have F9 := fun_mk (st := s_first_word) l9 c_9 k9
  have b9 := F9.binds (ps := ["words"]) fun _ _ _ _ _ _ us hl => match us, hl with | [_], _ => rfl
  have F10 := fun_mk (st := s_all_words) l10 c_10 k10
  have b10 := F10.binds (ps := ["letters", "most"]) fun _ _ _ _ _ _ us hl => match us, hl with | [_, _], _ => rfl
  have F11 := fun_mk (st := s_turn_word) l11 c_11 k11
  have b11 := F11.binds (ps := ["word"]) fun _ _ _ _ _ _ us hl => match us, hl with | [_], _ => rfl
  have F12 := fun_mk (st := s_show_word) l12 c_12 k12
  have b12 := F12.binds (ps := ["word"]) fun _ _ _ _ _ _ us hl => match us, hl with | [_], _ => rfl
  have F13 := fun_mk (st := s_shown_word) l13 c_13 k13
  have b13 := F13.binds (ps := ["letters", "text", "most"]) fun _ _ _ _ _ _ us hl => match us, hl with | [_, _, _], _ => rfl
  have F14 := fun_mk (st := s_read_shown) l14 c_14 k14
  have b14 := F14.binds (ps := ["letters", "text"]) fun _ _ _ _ _ _ us hl => match us, hl with | [_, _], _ => rfl
  have F15 := fun_mk (st := s_mix) l15 c_15 k15
  have b15 := F15.binds (ps := ["number", "tick"]) fun _ _ _ _ _ _ us hl => match us, hl with | [_, _], _ => rfl
  have F16 := fun_mk (st := s_store) l16 c_16 k16
  have b16 := F16.binds (ps := ["script"]) fun _ _ _ _ _ _ us hl => match us, hl with | [_], _ => rfl
  have F17 := fun_mk (st := s_take) l17 c_17 k17
  have b17 := F17.binds (ps := ["store", "many"]) fun _ _ _ _ _ _ us hl => match us, hl with | [_, _], _ => rfl
  have F18 := fun_mk (st := s_pick) l18 c_18 k18
  have b18 := F18.binds (ps := ["store", "row"]) fun _ _ _ _ _ _ us hl => match us, hl with | [_, _], _ => rfl
  have F19 := fun_mk (st := s_between) l19 c_19 k19
  have b19 := F19.binds (ps := ["store", "low", "high"]) fun _ _ _ _ _ _ us hl => match us, hl with | [_, _, _], _ => rfl
  have F20 := fun_mk (st := s_order) l20 c_20 k20
  have b20 := F20.binds (ps := ["store", "size"]) fun _ _ _ _ _ _ us hl => match us, hl with | [_, _], _ => rfl
  have F21 := fun_mk (st := s_turned) l21 c_21 k21
  have b21 := F21.binds (ps := ["store", "row"]) fun _ _ _ _ _ _ us hl => match us, hl with | [_, _], _ => rfl
  have F22 := fun_mk (st := s_letters) l22 c_22 k22
  have b22 := F22.binds (ps := ["store", "limit"]) fun _ _ _ _ _ _ us hl => match us, hl with | [_, _], _ => rfl
  have F23 := fun_mk (st := s_word) l23 c_23 k23
  have b23 := F23.binds (ps := ["store", "letters", "limit"]) fun _ _ _ _ _ _ us hl => match us, hl with | [_, _, _], _ => rfl
  have F24 := fun_mk (st := s_long_word) l24 c_24 k24
  have b24 := F24.binds (ps := ["store", "letters", "size"]) fun _ _ _ _ _ _ us hl => match us, hl with | [_, _, _], _ => rfl
  have F25 := fun_mk (st := s_unlike_word) l25 c_25 k25
  have b25 := F25.binds (ps := ["store", "letters", "word"]) fun _ _ _ _ _ _ us hl => match us, hl with | [_, _, _], _ => rfl
  have F26 := fun_mk (st := s_words) l26 c_26 k26
  have b26 := F26.binds (ps := ["store", "letters", "size", "limit"]) fun _ _ _ _ _ _ us hl => match us, hl with | [_, _, _, _], _ => rfl
  have F27 := fun_mk (st := s_same) l27 c_27 k27
  have b27 := F27.binds (ps := ["actual", "expected"]) fun _ _ _ _ _ _ us hl => match us, hl with | [_, _], _ => rfl
  have F28 := fun_mk (st := s_lists) l28 c_28 k28
  have b28 := F28.binds (ps := ["value"]) fun _ _ _ _ _ _ us hl => match us, hl with | [_], _ => rfl
  have F29 := fun_mk (st := s_wreck) l29 c_29 k29
  have b29 := F29.binds (ps := ["value"]) fun _ _ _ _ _ _ us hl => match us, hl with | [_], _ => rfl
  have F30 := fun_mk (st := s_next_word) l30 c_30 k30
  have b30 := F30.binds (ps := ["letters", "word"]) fun _ _ _ _ _ _ us hl => match us, hl with | [_, _], _ => rfl
  have F31 := fun_mk (st := s_before) l31 c_31 k31
  have b31 := F31.binds (ps := ["one", "two"]) fun _ _ _ _ _ _ us hl => match us, hl with | [_, _], _ => rfl
  have F32 := fun_mk (st := s_list_of_words) l32 c_32 k32
  have b32 := F32.binds (ps := ["value"]) fun _ _ _ _ _ _ us hl => match us, hl with | [_], _ => rfl
  have F33 := fun_mk (st := s_sorted_right) l33 c_33 k33
  have b33 := F33.binds (ps := ["words"]) fun _ _ _ _ _ _ us hl => match us, hl with | [_], _ => rfl
  have F34 := fun_mk (st := s_all_right) l34 c_34 k34
  have b34 := F34.binds (ps := ["letters", "limit"]) fun _ _ _ _ _ _ us hl => match us, hl with | [_, _], _ => rfl
  have F35 := fun_mk (st := s_turned_right) l35 c_35 k35
  have b35 := F35.binds (ps := ["word"]) fun _ _ _ _ _ _ us hl => match us, hl with | [_], _ => rfl
  have F36 := fun_mk (st := s_shown_right) l36 c_36 k36
  have b36 := F36.binds (ps := ["letters", "word"]) fun _ _ _ _ _ _ us hl => match us, hl with | [_, _], _ => rfl
  have F37 := fun_mk (st := s_law) l37 c_37 k37
  have b37 := F37.binds (ps := ["script"]) fun _ _ _ _ _ _ us hl => match us, hl with | [_], _ => rfl
  have FI1 := fun_mk (st := si_BadLetters) lI1 cI1 kI1
  have bI1 := FI1.binds (ps := ["self", "value"]) fun _ _ _ _ _ _ us hl => match us, hl with | [_, _], _ => rfl
  have FI2 := fun_mk (st := si_BadWord) lI2 cI2 kI2
  have bI2 := FI2.binds (ps := ["self", "value"]) fun _ _ _ _ _ _ us hl => match us, hl with | [_, _], _ => rfl
  have FI3 := fun_mk (st := si_BadNumber) lI3 cI3 kI3
  have bI3 := FI3.binds (ps := ["self", "value"]) fun _ _ _ _ _ _ us hl => match us, hl with | [_, _], _ => rfl
  letI : Tabl := ⟨([(P3, (Str.ofString "is_letters" ++ ".<locals>.") ++ "<genexpr>"), (P4, (Str.ofString "is_word" ++ ".<locals>.") ++ "<genexpr>")] : List (Addr × Str)), one⟩
  refine ⟨_, [(c3, P3), (c4, P4)], sp_law K, List.forall_mem_cons.mpr ⟨E _ _ _ _ _ _ _ _ _ _ y3 (PySem.W.mg_of X G a3) l3 rfl rfl r3 p3, List.forall_mem_cons.mpr ⟨E _ _ _ _ _ _ _ _ _ _ y4 (PySem.W.mg_of X G a4) l4 rfl rfl r4 p4, (fun _ h => nomatch h)⟩⟩, List.forall_mem_cons.mpr ⟨n3, List.forall_mem_cons.mpr ⟨n4, (fun _ h => nomatch h)⟩⟩, List.forall_mem_cons.mpr ⟨PySem.W.codeHd_of_K X h3, List.forall_mem_cons.mpr ⟨PySem.W.codeHd_of_K X h4, (fun _ h => nomatch h)⟩⟩, fun s v => .of_eq rfl, fun H a ns hl _ hT hS => ⟨a, ns, rfl, hS, hl, List.forall_mem_cons.mpr ⟨LamX.TabS.nil (hT (c3, P3) (List.Mem.head _)), List.forall_mem_cons.mpr ⟨LamX.TabS.nil (hT (c4, P4) (List.Mem.tail _ (List.Mem.head _))), (fun _ h => nomatch h)⟩⟩, fun _ => rfl⟩, fun base _ _ tb => ok_law (K := K) (mg := mg) { f_is_whole := _, fd_is_whole := _, F_is_whole := F0, b_is_whole := b0, g_is_whole := PySem.W.mg_of X G a0, f_in_range := _, fd_in_range := _, F_in_range := F1, b_in_range := b1, g_in_range := PySem.W.mg_of X G a1, f_check_number := _, fd_check_number := _, F_check_number := F2, b_check_number := b2, g_check_number := PySem.W.mg_of X G a2, f_is_letters := _, fd_is_letters := _, C_is_letters := c3, P_is_letters := P3, F_is_letters := ⟨F3, rfl⟩, B_is_letters := tb (c3, P3) (List.Mem.head _), m_is_letters := (List.Mem.head _), b_is_letters := b3, g_is_letters := PySem.W.mg_of X G a3, f_is_word := _, fd_is_word := _, C_is_word := c4, P_is_word := P4, F_is_word := ⟨F4, rfl⟩, B_is_word := tb (c4, P4) (List.Mem.tail _ (List.Mem.head _)), m_is_word := (List.Mem.tail _ (List.Mem.head _)), b_is_word := b4, g_is_word := PySem.W.mg_of X G a4, f_is_word_up_to := _, fd_is_word_up_to := _, F_is_word_up_to := F5, b_is_word_up_to := b5, g_is_word_up_to := PySem.W.mg_of X G a5, f_check_letters := _, fd_check_letters := _, F_check_letters := F6, b_check_letters := b6, g_check_letters := PySem.W.mg_of X G a6, f_word_key := _, fd_word_key := _, F_word_key := F7, b_word_key := b7, g_word_key := PySem.W.mg_of X G a7, f_sort_words := _, fd_sort_words := _, F_sort_words := F8, b_sort_words := b8, g_sort_words := PySem.W.mg_of X G a8, f_first_word := _, fd_first_word := _, F_first_word := F9, b_first_word := b9, g_first_word := PySem.W.mg_of X G a9, f_all_words := _, fd_all_words := _, F_all_words := F10, b_all_words := b10, g_all_words := PySem.W.mg_of X G a10, f_turn_word := _, fd_turn_word := _, F_turn_word := F11, b_turn_word := b11, g_turn_word := PySem.W.mg_of X G a11, f_show_word := _, fd_show_word := _, F_show_word := F12, b_show_word := b12, g_show_word := PySem.W.mg_of X G a12, f_shown_word := _, fd_shown_word := _, F_shown_word := F13, b_shown_word := b13, g_shown_word := PySem.W.mg_of X G a13, f_read_shown := _, fd_read_shown := _, F_read_shown := F14, b_read_shown := b14, g_read_shown := PySem.W.mg_of X G a14, f_mix := _, fd_mix := _, F_mix := F15, b_mix := b15, g_mix := PySem.W.mg_of X G a15, f_store := _, fd_store := _, F_store := F16, b_store := b16, g_store := PySem.W.mg_of X G a16, f_take := _, fd_take := _, F_take := F17, b_take := b17, g_take := PySem.W.mg_of X G a17, f_pick := _, fd_pick := _, F_pick := F18, b_pick := b18, g_pick := PySem.W.mg_of X G a18, f_between := _, fd_between := _, F_between := F19, b_between := b19, g_between := PySem.W.mg_of X G a19, f_order := _, fd_order := _, F_order := F20, b_order := b20, g_order := PySem.W.mg_of X G a20, f_turned := _, fd_turned := _, F_turned := F21, b_turned := b21, g_turned := PySem.W.mg_of X G a21, f_letters := _, fd_letters := _, F_letters := F22, b_letters := b22, g_letters := PySem.W.mg_of X G a22, f_word := _, fd_word := _, F_word := F23, b_word := b23, g_word := PySem.W.mg_of X G a23, f_long_word := _, fd_long_word := _, F_long_word := F24, b_long_word := b24, g_long_word := PySem.W.mg_of X G a24, f_unlike_word := _, fd_unlike_word := _, F_unlike_word := F25, b_unlike_word := b25, g_unlike_word := PySem.W.mg_of X G a25, f_words := _, fd_words := _, F_words := F26, b_words := b26, g_words := PySem.W.mg_of X G a26, f_same := _, fd_same := _, F_same := F27, b_same := b27, g_same := PySem.W.mg_of X G a27, f_lists := _, fd_lists := _, F_lists := F28, b_lists := b28, g_lists := PySem.W.mg_of X G a28, f_wreck := _, fd_wreck := _, F_wreck := F29, b_wreck := b29, g_wreck := PySem.W.mg_of X G a29, f_next_word := _, fd_next_word := _, F_next_word := F30, b_next_word := b30, g_next_word := PySem.W.mg_of X G a30, f_before := _, fd_before := _, F_before := F31, b_before := b31, g_before := PySem.W.mg_of X G a31, f_list_of_words := _, fd_list_of_words := _, F_list_of_words := F32, b_list_of_words := b32, g_list_of_words := PySem.W.mg_of X G a32, f_sorted_right := _, fd_sorted_right := _, F_sorted_right := F33, b_sorted_right := b33, g_sorted_right := PySem.W.mg_of X G a33, f_all_right := _, fd_all_right := _, F_all_right := F34, b_all_right := b34, g_all_right := PySem.W.mg_of X G a34, f_turned_right := _, fd_turned_right := _, F_turned_right := F35, b_turned_right := b35, g_turned_right := PySem.W.mg_of X G a35, f_shown_right := _, fd_shown_right := _, F_shown_right := F36, b_shown_right := b36, g_shown_right := PySem.W.mg_of X G a36, f_law := _, fd_law := _, F_law := F37, b_law := b37, g_law := PySem.W.mg_of X G a37, C_LagError := eC0, E_LagError := ⟨PySem.W.mg_of X G ea0, ⟨⟨_, _, _, _, _, _, _, _, _, _, _, _, _, _, _, el0, er0⟩, esa0, eex0, ety0, ekp0⟩, ⟨ega0, egg0, eex0, ehd0⟩, ⟨ega0, egg0, eex0, ehd0, eca0, sp1, sp2, emr0⟩⟩, C_BadLetters := eC1, E_BadLetters := ⟨PySem.W.mg_of X G ea1, ⟨⟨_, _, _, _, _, _, _, _, _, _, _, _, _, _, _, el1, er1⟩, esa1, eex1, ety1, ekp1⟩, ⟨ega1, egg1, eex1, ehd1⟩, ⟨ega1, egg1, eex1, ehd1, eca1, sp1, sp2, emr1⟩⟩, I_BadLetters := eI1, fdI_BadLetters := _, FI_BadLetters := FI1, bI_BadLetters := bI1, iI_BadLetters := iI1, tI_BadLetters := tI1, no_BadLetters_value := eno1_value, C_BadWord := eC2, E_BadWord := ⟨PySem.W.mg_of X G ea2, ⟨⟨_, _, _, _, _, _, _, _, _, _, _, _, _, _, _, el2, er2⟩, esa2, eex2, ety2, ekp2⟩, ⟨ega2, egg2, eex2, ehd2⟩, ⟨ega2, egg2, eex2, ehd2, eca2, sp1, sp2, emr2⟩⟩, I_BadWord := eI2, fdI_BadWord := _, FI_BadWord := FI2, bI_BadWord := bI2, iI_BadWord := iI2, tI_BadWord := tI2, no_BadWord_value := eno2_value, C_BadNumber := eC3, E_BadNumber := ⟨PySem.W.mg_of X G ea3, ⟨⟨_, _, _, _, _, _, _, _, _, _, _, _, _, _, _, el3, er3⟩, esa3, eex3, ety3, ekp3⟩, ⟨ega3, egg3, eex3, ehd3⟩, ⟨ega3, egg3, eex3, ehd3, eca3, sp1, sp2, emr3⟩⟩, I_BadNumber := eI3, fdI_BadNumber := _, FI_BadNumber := FI3, bI_BadNumber := bI3, iI_BadNumber := iI3, tI_BadNumber := tI3, no_BadNumber_value := eno3_value, z_ValueError := PySem.W.mg_none_of X G z_ValueError, z_all := PySem.W.mg_none_of X G z_all, z_bool := PySem.W.mg_none_of X G z_bool, z_int := PySem.W.mg_none_of X G z_int, z_isinstance := PySem.W.mg_none_of X G z_isinstance, z_len := PySem.W.mg_none_of X G z_len, z_list := PySem.W.mg_none_of X G z_list, z_max := PySem.W.mg_none_of X G z_max, z_min := PySem.W.mg_none_of X G z_min, z_range := PySem.W.mg_none_of X G z_range, z_set := PySem.W.mg_none_of X G z_set, z_sorted := PySem.W.mg_none_of X G z_sorted, z_str := PySem.W.mg_none_of X G z_str, z_tuple := PySem.W.mg_none_of X G z_tuple, t_MAX_LETTERS := t_MAX_LETTERS, c_MAX_LETTERS := PySem.W.mg_of X G c_MAX_LETTERS, t_MAX_READ := t_MAX_READ, c_MAX_READ := PySem.W.mg_of X G c_MAX_READ, t_SMALL_LETTERS := t_SMALL_LETTERS, c_SMALL_LETTERS := PySem.W.mg_of X G c_SMALL_LETTERS, t_MAX_ALL_WORDS := t_MAX_ALL_WORDS, c_MAX_ALL_WORDS := PySem.W.mg_of X G c_MAX_ALL_WORDS }⟩
end Lb
open PySem PySem.W PyProof.Rows
set_option maxHeartbeats 0 in
theorem PySem.Challenge.cw_lagbound_k04_words_in_order_holds : PySem.Challenge.rw_lagbound_k04_words_in_order.Holds := by
  w_on; o_law; k_head; (case hw => w_witness2)
  k_fill
  refine Lb.walk_tabs (l := PySem.Challenge.rw_lagbound_k04_words_in_order) (n := 63) (k := 11 + 1) (x := "script") (CX := fun _ => L2.CX0) rfl (by decide) rfl ⟨rfl, by decide, by decide⟩ (fun w h Y => by first | exact PySem.W.kIn_of Y | exact Y.1) ?F (fun _ _ _ _ _ h => h)
  case F =>
    intro w mg fa h KX G hmg E
    refine' Lb.all_mk KX G hmg E ?a0 ?l0 ?k0 ?c_0 ?a1 ?l1 ?k1 ?c_1 ?a2 ?l2 ?k2 ?c_2 ?a3 ?l3 ?k3 ?c_3 ?r3 ?p3 ?n3 ?h3 ?y3 ?a4 ?l4 ?k4 ?c_4 ?r4 ?p4 ?n4 ?h4 ?y4 ?a5 ?l5 ?k5 ?c_5 ?a6 ?l6 ?k6 ?c_6 ?a7 ?l7 ?k7 ?c_7 ?a8 ?l8 ?k8 ?c_8 ?a9 ?l9 ?k9 ?c_9 ?a10 ?l10 ?k10 ?c_10 ?a11 ?l11 ?k11 ?c_11 ?a12 ?l12 ?k12 ?c_12 ?a13 ?l13 ?k13 ?c_13 ?a14 ?l14 ?k14 ?c_14 ?a15 ?l15 ?k15 ?c_15 ?a16 ?l16 ?k16 ?c_16 ?a17 ?l17 ?k17 ?c_17 ?a18 ?l18 ?k18 ?c_18 ?a19 ?l19 ?k19 ?c_19 ?a20 ?l20 ?k20 ?c_20 ?a21 ?l21 ?k21 ?c_21 ?a22 ?l22 ?k22 ?c_22 ?a23 ?l23 ?k23 ?c_23 ?a24 ?l24 ?k24 ?c_24 ?a25 ?l25 ?k25 ?c_25 ?a26 ?l26 ?k26 ?c_26 ?a27 ?l27 ?k27 ?c_27 ?a28 ?l28 ?k28 ?c_28 ?a29 ?l29 ?k29 ?c_29 ?a30 ?l30 ?k30 ?c_30 ?a31 ?l31 ?k31 ?c_31 ?a32 ?l32 ?k32 ?c_32 ?a33 ?l33 ?k33 ?c_33 ?a34 ?l34 ?k34 ?c_34 ?a35 ?l35 ?k35 ?c_35 ?a36 ?l36 ?k36 ?c_36 ?a37 ?l37 ?k37 ?c_37 ?sp1 ?sp2 ?ea0 ?el0 ?er0 ?esa0 ?eex0 ?ety0 ?ekp0 ?ega0 ?egg0 ?ehd0 ?eca0 ?emr0 ?ea1 ?el1 ?er1 ?esa1 ?eex1 ?ety1 ?ekp1 ?ega1 ?egg1 ?ehd1 ?eca1 ?emr1 ?iI1 ?tI1 ?lI1 ?cI1 ?kI1 ?eno1_value ?ea2 ?el2 ?er2 ?esa2 ?eex2 ?ety2 ?ekp2 ?ega2 ?egg2 ?ehd2 ?eca2 ?emr2 ?iI2 ?tI2 ?lI2 ?cI2 ?kI2 ?eno2_value ?ea3 ?el3 ?er3 ?esa3 ?eex3 ?ety3 ?ekp3 ?ega3 ?egg3 ?ehd3 ?eca3 ?emr3 ?iI3 ?tI3 ?lI3 ?cI3 ?kI3 ?eno3_value ?z_ValueError ?z_all ?z_bool ?z_int ?z_isinstance ?z_len ?z_list ?z_max ?z_min ?z_range ?z_set ?z_sorted ?z_str ?z_tuple ?c_MAX_LETTERS ?c_MAX_READ ?c_SMALL_LETTERS ?c_MAX_ALL_WORDS ?one
    (case a0 => k_is)
    (case l0 => k_is)
    (case k0 => k_is)
    (case c_0 => k_is)
    (case a1 => k_is)
    (case l1 => k_is)
    (case k1 => k_is)
    (case c_1 => k_is)
    (case a2 => k_is)
    (case l2 => k_is)
    (case k2 => k_is)
    (case c_2 => k_is)
    (case a3 => k_is)
    (case l3 => k_is)
    (case k3 => k_is)
    (case c_3 => k_is)
    (case r3 => k_is)
    (case p3 => first | rfl | k_is)
    (case n3 => first | k_is | rfl | decide +kernel)
    (case h3 => kernel_rfl)
    (case y3 => decide +kernel)
    (case a4 => k_is)
    (case l4 => k_is)
    (case k4 => k_is)
    (case c_4 => k_is)
    (case r4 => k_is)
    (case p4 => first | rfl | k_is)
    (case n4 => first | k_is | rfl | decide +kernel)
    (case h4 => kernel_rfl)
    (case y4 => decide +kernel)
    (case a5 => k_is)
    (case l5 => k_is)
    (case k5 => k_is)
    (case c_5 => k_is)
    (case a6 => k_is)
    (case l6 => k_is)
    (case k6 => k_is)
    (case c_6 => k_is)
    (case a7 => k_is)
    (case l7 => k_is)
    (case k7 => k_is)
    (case c_7 => k_is)
    (case a8 => k_is)
    (case l8 => k_is)
    (case k8 => k_is)
    (case c_8 => k_is)
    (case a9 => k_is)
    (case l9 => k_is)
    (case k9 => k_is)
    (case c_9 => k_is)
    (case a10 => k_is)
    (case l10 => k_is)
    (case k10 => k_is)
    (case c_10 => k_is)
    (case a11 => k_is)
    (case l11 => k_is)
    (case k11 => k_is)
    (case c_11 => k_is)
    (case a12 => k_is)
    (case l12 => k_is)
    (case k12 => k_is)
    (case c_12 => k_is)
    (case a13 => k_is)
    (case l13 => k_is)
    (case k13 => k_is)
    (case c_13 => k_is)
    (case a14 => k_is)
    (case l14 => k_is)
    (case k14 => k_is)
    (case c_14 => k_is)
    (case a15 => k_is)
    (case l15 => k_is)
    (case k15 => k_is)
    (case c_15 => k_is)
    (case a16 => k_is)
    (case l16 => k_is)
    (case k16 => k_is)
    (case c_16 => k_is)
    (case a17 => k_is)
    (case l17 => k_is)
    (case k17 => k_is)
    (case c_17 => k_is)
    (case a18 => k_is)
    (case l18 => k_is)
    (case k18 => k_is)
    (case c_18 => k_is)
    (case a19 => k_is)
    (case l19 => k_is)
    (case k19 => k_is)
    (case c_19 => k_is)
    (case a20 => k_is)
    (case l20 => k_is)
    (case k20 => k_is)
    (case c_20 => k_is)
    (case a21 => k_is)
    (case l21 => k_is)
    (case k21 => k_is)
    (case c_21 => k_is)
    (case a22 => k_is)
    (case l22 => k_is)
    (case k22 => k_is)
    (case c_22 => k_is)
    (case a23 => k_is)
    (case l23 => k_is)
    (case k23 => k_is)
    (case c_23 => k_is)
    (case a24 => k_is)
    (case l24 => k_is)
    (case k24 => k_is)
    (case c_24 => k_is)
    (case a25 => k_is)
    (case l25 => k_is)
    (case k25 => k_is)
    (case c_25 => k_is)
    (case a26 => k_is)
    (case l26 => k_is)
    (case k26 => k_is)
    (case c_26 => k_is)
    (case a27 => k_is)
    (case l27 => k_is)
    (case k27 => k_is)
    (case c_27 => k_is)
    (case a28 => k_is)
    (case l28 => k_is)
    (case k28 => k_is)
    (case c_28 => k_is)
    (case a29 => k_is)
    (case l29 => k_is)
    (case k29 => k_is)
    (case c_29 => k_is)
    (case a30 => k_is)
    (case l30 => k_is)
    (case k30 => k_is)
    (case c_30 => k_is)
    (case a31 => k_is)
    (case l31 => k_is)
    (case k31 => k_is)
    (case c_31 => k_is)
    (case a32 => k_is)
    (case l32 => k_is)
    (case k32 => k_is)
    (case c_32 => k_is)
    (case a33 => k_is)
    (case l33 => k_is)
    (case k33 => k_is)
    (case c_33 => k_is)
    (case a34 => k_is)
    (case l34 => k_is)
    (case k34 => k_is)
    (case c_34 => k_is)
    (case a35 => k_is)
    (case l35 => k_is)
    (case k35 => k_is)
    (case c_35 => k_is)
    (case a36 => k_is)
    (case l36 => k_is)
    (case k36 => k_is)
    (case c_36 => k_is)
    (case a37 => k_is)
    (case l37 => k_is)
    (case k37 => k_is)
    (case c_37 => k_is)
    (case sp1 => k_is)
    (case sp2 => k_is)
    (case ea0 => k_is)
    (case el0 => k_is)
    (case er0 => first | rfl | decide +kernel)
    (case esa0 => k_is)
    (case eex0 => k_is)
    (case ety0 => k_is)
    (case ekp0 => k_is)
    (case ega0 => k_is)
    (case egg0 => k_is)
    (case ehd0 => k_is)
    (case eca0 => k_is)
    (case emr0 => k_is)
    (case ea1 => k_is)
    (case el1 => k_is)
    (case er1 => first | rfl | decide +kernel)
    (case esa1 => k_is)
    (case eex1 => k_is)
    (case ety1 => k_is)
    (case ekp1 => k_is)
    (case ega1 => k_is)
    (case egg1 => k_is)
    (case ehd1 => k_is)
    (case eca1 => k_is)
    (case emr1 => k_is)
    (case iI1 => k_is)
    (case tI1 => k_is)
    (case lI1 => k_is)
    (case cI1 => k_is)
    (case kI1 => k_is)
    (case eno1_value => k_is)
    (case ea2 => k_is)
    (case el2 => k_is)
    (case er2 => first | rfl | decide +kernel)
    (case esa2 => k_is)
    (case eex2 => k_is)
    (case ety2 => k_is)
    (case ekp2 => k_is)
    (case ega2 => k_is)
    (case egg2 => k_is)
    (case ehd2 => k_is)
    (case eca2 => k_is)
    (case emr2 => k_is)
    (case iI2 => k_is)
    (case tI2 => k_is)
    (case lI2 => k_is)
    (case cI2 => k_is)
    (case kI2 => k_is)
    (case eno2_value => k_is)
    (case ea3 => k_is)
    (case el3 => k_is)
    (case er3 => first | rfl | decide +kernel)
    (case esa3 => k_is)
    (case eex3 => k_is)
    (case ety3 => k_is)
    (case ekp3 => k_is)
    (case ega3 => k_is)
    (case egg3 => k_is)
    (case ehd3 => k_is)
    (case eca3 => k_is)
    (case emr3 => k_is)
    (case iI3 => k_is)
    (case tI3 => k_is)
    (case lI3 => k_is)
    (case cI3 => k_is)
    (case kI3 => k_is)
    (case eno3_value => k_is)
    (case z_ValueError => k_is)
    (case z_all => k_is)
    (case z_bool => k_is)
    (case z_int => k_is)
    (case z_isinstance => k_is)
    (case z_len => k_is)
    (case z_list => k_is)
    (case z_max => k_is)
    (case z_min => k_is)
    (case z_range => k_is)
    (case z_set => k_is)
    (case z_sorted => k_is)
    (case z_str => k_is)
    (case z_tuple => k_is)
    (case c_MAX_LETTERS => k_is)
    (case c_MAX_READ => k_is)
    (case c_SMALL_LETTERS => k_is)
    (case c_MAX_ALL_WORDS => k_is)
    (case one => decide +kernel)
