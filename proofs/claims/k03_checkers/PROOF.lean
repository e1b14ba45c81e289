import PyProof.Rows.All
import Wide.All
import OpenK.AllK
import Wide.FinOn
import PyProof.EqAt
import PyProof.EqKinds
import PyProof.TupleCall
import HandS.ForMost
import PyProof.Rows.StrMul
import HandS.Lambda
import HandS.AnyAll
import HandS.EndTab
import HandS.IsInst
import KE.GoesZip
import KE.GoesMore
import HandS.Codes
import KE.DatumOrd
import HandS.Walk
import HandS.Words
import HandS.Nested
import HandS.ExcInit
import HandS.ExcField
import HandS.ExcIs
import HandS.WordsExc
import KE.KExcIs
import HandS.ExcOwn
import HandS.Wide
import HandS.WideBits
import HandS.StrMore
import PyProof.StrLawsOcc
import HandS.TupLe
import HandS.RevTup
import PyProof.JoinWalk
import HandS.Strs
import HandS.Set
import HandS.SetTxt0
import PyProof.ListStr
import PySem.Challenge.RW_lagbound_k03_checkers
set_option Elab.async false
set_option linter.all false
set_option maxRecDepth 100000
set_option maxHeartbeats 4000000
namespace Lb
open PySem PySem.Spec PyProof.Rows L2
/-! ### texts as lists of their signs -/
def cs (x : Str) : List Nat := x.cps.toList
theorem cs_len (x : Str) : (cs x).length = x.length := by
  show x.cps.toList.length = x.cps.size
  rw [Array.length_toList]
theorem cs_ext {x y : Str} (h : cs x = cs y) : x = y := Str.ext' (Array.toList_inj.mp h)
theorem cs_app (x y : Str) : cs (x ++ y) = cs x ++ cs y := by
  show (x.cps ++ y.cps).toList = x.cps.toList ++ y.cps.toList
  rw [Array.toList_append]
theorem cs_mk (l : List Nat) : cs ⟨l.toArray⟩ = l := by
  show l.toArray.toList = l
  rfl
theorem cs_one (c : Nat) : cs ⟨#[c]⟩ = [c] := rfl
theorem cs_empty : cs (Str.ofString "") = [] := by decide +kernel
theorem foldl_app (ls : List (Array Nat)) : ∀ a : Array Nat, (ls.foldl (· ++ ·) a).toList = a.toList ++ (ls.map Array.toList).flatten := by
  induction ls with
  | nil => intro a; simp
  | cons x r ih => intro a; rw [List.foldl_cons, ih]; simp
theorem cs_mul (x : Str) (n : Int) : cs (Txt.mul x n) = (List.replicate n.toNat (cs x)).flatten := by
  unfold Txt.mul
  by_cases h1 : n < 1
  · rw [if_pos h1]
    have e : n.toNat = 0 := by omega
    rw [e]
    rfl
  · rw [if_neg h1]
    by_cases h2 : (n == 1 || x.length == 0) = true
    · rw [if_pos h2]
      rw [Bool.or_eq_true, beq_iff_eq, beq_iff_eq] at h2
      rcases h2 with rfl | h2
      · show cs x = (List.replicate 1 (cs x)).flatten
        simp
      · have e : cs x = [] := List.length_eq_zero_iff.mp (by rw [cs_len]; exact h2)
        rw [e]
        simp
    · rw [if_neg h2]
      show ((List.replicate n.toNat x.cps).foldl (· ++ ·) #[]).toList = _
      rw [foldl_app]
      simp [cs]
theorem mem_mul {x : Str} {n : Int} {c : Nat} (h : c ∈ cs (Txt.mul x n)) : c ∈ cs x := by
  rw [cs_mul, List.mem_flatten] at h
  obtain ⟨l, hl, hc⟩ := h
  rw [(List.mem_replicate.mp hl).2] at hc
  exact hc
theorem length_mul (x : Str) (n : Int) : (Txt.mul x n).length = x.length * n.toNat := by
  have e : ∀ k : Nat, ((List.replicate k (cs x)).flatten).length = x.length * k := by
    intro k
    induction k with
    | zero => rfl
    | succ k ih => rw [List.replicate_succ, List.flatten_cons, List.length_append, ih, cs_len, Nat.mul_succ, Nat.add_comm]
  rw [← cs_len, cs_mul]
  exact e _
theorem op_rep_str {X : Cx} : OpR X (binaryOp .Mult) (fun x y H Q => ∃ (i : Str) (n : Int), x = .str i ∧ y = .int n ∧ i.length ≤ 16 ∧ -(2 ^ 62) ≤ n ∧ n ≤ 1048576 ∧ Q (.str (Txt.mul i n)) H) := by
  intro pins s σ H x y v u Q I rx ry h
  obtain ⟨i, n, rfl, rfl, hi, h0, h1, q⟩ := h
  obtain ⟨t, rfl⟩ := rx
  obtain ⟨t', rfl⟩ := ry
  exact SB.mul (mulOk_of 16 1048576 hi h1 (by omega) (by decide) (by decide)) fun t' tk => ⟨.str (Txt.mul i n), H, I.tok _, ⟨_, rfl⟩, q⟩
theorem cs_cut (z : Str) (lo hi : Option Int) : cs (cutS z lo hi) = ((cs z).drop (HT.sIx z.length 0 lo)).take (HT.sIx z.length z.length hi - HT.sIx z.length 0 lo) := rfl
theorem cs_upto (z : Str) (k : Nat) : cs (cutS z none (some (k : Int))) = (cs z).take k := by
  rw [cs_cut, HT.sIx_none, HT.sIx_nat, List.drop_zero, Nat.sub_zero, ← cs_len]
  by_cases h : k ≤ (cs z).length
  · rw [Nat.min_eq_left h]
  · rw [Nat.min_eq_right (by omega), List.take_of_length_le (Nat.le_refl _), List.take_of_length_le (by omega)]
theorem cs_from (z : Str) (k : Nat) : cs (cutS z (some (k : Int)) none) = (cs z).drop k := by
  rw [cs_cut, HT.sIx_none, HT.sIx_nat, ← cs_len]
  by_cases h : k ≤ (cs z).length
  · rw [Nat.min_eq_left h, List.take_of_length_le (by rw [List.length_drop]; omega)]
  · rw [Nat.min_eq_right (by omega), Nat.sub_self, List.take_zero, List.drop_eq_nil_of_le (by omega)]
theorem mem_cut {z : Str} {lo hi : Option Int} {c : Nat} (h : c ∈ cs (cutS z lo hi)) : c ∈ cs z := by
  rw [cs_cut] at h
  exact List.mem_of_mem_drop (List.mem_of_mem_take h)
theorem cut_len (z : Str) (lo hi : Option Int) : (cutS z lo hi).length ≤ z.length := cutS_length z lo hi
theorem join_nil : Txt.join (Str.ofString "") [] = Str.ofString "" := rfl
theorem cs_join0 : ∀ ys : List Str, cs (Txt.join (Str.ofString "") ys) = (ys.map cs).flatten
  | [] => cs_empty
  | [x] => by
    show cs x = ([x].map cs).flatten
    simp
  | x :: y :: r => by
    have e : Txt.join (Str.ofString "") (x :: y :: r) = x ++ Str.ofString "" ++ Txt.join (Str.ofString "") (y :: r) := by
      unfold Txt.join
      first
        | rfl
        | (rw [StrLaws.glued_eq_join, StrLaws.glued_eq_join]; rfl)
    rw [e, cs_app, cs_app, cs_empty, cs_join0 (y :: r)]
    simp
/-- the word's letters are letters of z -/
def Over (z w : Str) : Prop := ∀ c ∈ cs w, c ∈ cs z
theorem Over.app {z x y : Str} (h : Over z x) (k : Over z y) : Over z (x ++ y) := fun c m => by
  rw [cs_app] at m
  rcases List.mem_append.mp m with m | m
  · exact h c m
  · exact k c m
theorem Over.mul {z x : Str} {n : Int} (h : Over z x) : Over z (Txt.mul x n) := fun c m => h c (mem_mul m)
theorem Over.cut {z x : Str} {lo hi : Option Int} (h : Over z x) : Over z (cutS x lo hi) := fun c m => h c (mem_cut m)
theorem Over.one {z : Str} {c : Nat} (h : c ∈ cs z) : Over z ⟨#[c]⟩ := fun d m => by
  rw [cs_one] at m
  rw [List.mem_singleton.mp m]
  exact h
theorem Over.empty {z : Str} : Over z (Str.ofString "") := fun c m => by
  rw [cs_empty] at m
  exact absurd m List.not_mem_nil
theorem length_app (x y : Str) : (x ++ y).length = x.length + y.length := Str.length_append x y
theorem small_text {n : Nat} (h : n ≤ 1000000) : n ≤ sizeLine := Nat.le_trans h (by decide)
end Lb
namespace Lb
open PySem PySem.Spec PyProof.Rows L2
def abc : Str := Str.ofString "abcdefghijklmnopqrstuvwxyz"
theorem cs_abc : cs abc = List.range' 97 26 := by decide +kernel
theorem len_abc : abc.length = 26 := by decide +kernel
/-- one to four letters from a to z, ascending -/
structure IsAlpha (z : Str) : Prop where
  asc : (cs z).Pairwise (· < ·)
  low : ∀ c ∈ cs z, 97 ≤ c ∧ c ≤ 122
  len1 : 1 ≤ z.length
  len4 : z.length ≤ 4
theorem IsAlpha.small {z : Str} (h : IsAlpha z) : z.length ≤ 1000000 := Nat.le_trans h.len4 (by decide)
theorem IsAlpha.nodup {z : Str} (h : IsAlpha z) : (cs z).Nodup := h.asc.imp fun e => Nat.ne_of_lt e
theorem abc_asc : (cs abc).Pairwise (· < ·) := by
  rw [cs_abc]
  exact List.pairwise_lt_range'
theorem abc_low : ∀ c ∈ cs abc, 97 ≤ c ∧ c ≤ 122 := fun c h => by
  rw [cs_abc, List.mem_range'_1] at h
  omega
theorem abc_upto {k : Nat} (h1 : 1 ≤ k) (h4 : k ≤ 4) : IsAlpha (cutS abc none (some (k : Int))) where
  asc := by
    rw [cs_upto]
    exact abc_asc.sublist (List.take_sublist _ _)
  low := fun c h => abc_low c (mem_cut h)
  len1 := by
    rw [← cs_len, cs_upto, List.length_take, cs_len, len_abc]
    omega
  len4 := by
    rw [← cs_len, cs_upto, List.length_take, cs_len, len_abc]
    omega
theorem abc_from {k : Nat} (h1 : 22 ≤ k) (h4 : k ≤ 25) : IsAlpha (cutS abc (some (k : Int)) none) where
  asc := by
    rw [cs_from]
    exact abc_asc.sublist (List.drop_sublist _ _)
  low := fun c h => abc_low c (mem_cut h)
  len1 := by
    rw [← cs_len, cs_from, List.length_drop, cs_len, len_abc]
    omega
  len4 := by
    rw [← cs_len, cs_from, List.length_drop, cs_len, len_abc]
    omega
theorem starts_iff (x p : Str) : Txt.startswith x p = decide ((cs x).take p.length = cs p) := by
  unfold Txt.startswith
  rw [StrLaws.subAt_eq, List.drop_zero, Nat.zero_add]
  show (decide (p.length ≤ x.length) && ((cs x).take p.length == cs p)) = _
  by_cases h : (cs x).take p.length = cs p
  · have hl : p.length ≤ x.length := by
      rw [← cs_len, ← h, List.length_take, cs_len]
      omega
    rw [decide_eq_true hl, decide_eq_true h, beq_iff_eq.mpr h]
    rfl
  · rw [decide_eq_false h, beq_eq_false_iff_ne.mpr h, Bool.and_false]
end Lb

namespace Lb
open PySem PySem.Spec PyProof.Rows L2
/-! ### the text's tables of code objects; what stands while a def runs -/
/-- the tables of the text's defs that make generators or lambdas: where they are, and the name their code objects bear -/
class Tabl where
  T : List (Addr × Str)
  one : ∀ p ∈ T, ∀ q ∈ T, p.1 = q.1 → p.2 = q.2
abbrev Good [Tabl] (H : Hp) : Prop := LamX.Tabs Tabl.T H
/-- no table -/
abbrev NoT (o : HO) : Prop := ∀ ps, o ≠ .tbl ps
/-- a list, a dict, a set or an instance: what a def may change -/
def Mut : HO → Prop
  | .lst _ | .dK _ | .dT _ | .set _ _ | .ins _ _ _ => True
  | _ => False
theorem Mut.noT {o : HO} (h : Mut o) : NoT o := fun ps e => by
  rw [e] at h
  exact h
theorem tabS_upd {H : Hp} {P p : Addr} {q : Str} {o : HO} (t : LamX.TabS H P q) (h : H p = none ∨ ∃ u, H p = some u ∧ Mut u) : LamX.TabS (upd H p o) P q := by
  obtain ⟨ps, h1, h2, h3⟩ := t
  have ne : ∀ b u, H b = some u → ¬ Mut u → b ≠ p := fun b u e m z => by
    rw [z] at e
    rcases h with h | ⟨v, h, k⟩
    · rw [h] at e
      cases e
    · rw [h] at e
      rw [Option.some.inj e] at k
      exact m k
  refine ⟨ps, by rw [upd_ne (ne P _ h1 id)]; exact h1, h2, fun pos cv hc => ?_⟩
  obtain ⟨c, e1, e2⟩ := h3 pos cv hc
  exact ⟨c, e1, by rw [upd_ne (ne c _ e2 id)]; exact e2⟩
section
variable [Tabl]
/-- what stood stands; the tables may have grown -/
structure Same (H H' : Hp) : Prop where
  old : ∀ b o, H b = some o → (_ : NoT o := by intro _ z; cases z) → H' b = some o
  tab : ∀ b ps, H b = some (.tbl ps) → ∃ qs, H' b = some (.tbl qs)
  good : Good H → Good H'
instance {H H' : Hp} : CoeFun (Same H H') fun _ => ∀ b o, H b = some o → (_ : NoT o := by intro _ z; cases z) → H' b = some o := ⟨@Same.old _ H H'⟩
theorem Same.refl (H : Hp) : Same H H := ⟨fun _ _ h _ => h, fun _ ps h => ⟨ps, h⟩, id⟩
theorem Same.trans {H H1 H2 : Hp} (p : Same H H1) (q : Same H1 H2) : Same H H2 :=
  ⟨fun b o h n => q.old b o (p.old b o h n) n, fun b ps h => let ⟨qs, e⟩ := p.tab b ps h; q.tab b qs e, fun g => q.good (p.good g)⟩
theorem Same.free {H H' : Hp} {p : Addr} (s : Same H H') (n : H' p = none) : H p = none := by
  cases e : H p with
  | none => rfl
  | some o =>
    by_cases k : NoT o
    · rw [s.old _ _ e k] at n
      cases n
    · have ⟨ps, z⟩ : ∃ ps, o = .tbl ps := Classical.byContradiction fun c => k fun ps z => c ⟨ps, z⟩
      rw [z] at e
      obtain ⟨qs, e'⟩ := s.tab _ _ e
      rw [e'] at n
      cases n
theorem same_new {H : Hp} {p : Addr} {o : HO} (h : H p = none) : Same H (upd H p o) where
  old b x e _ := by
    rw [upd_ne (ne_of_none e h)]
    exact e
  tab b ps e := ⟨ps, by rw [upd_ne (ne_of_none e h)]; exact e⟩
  good g := fun t ht => tabS_upd (g t ht) (.inl h)
/-- all but the object at a stands -/
structure But (a : Addr) (H H' : Hp) : Prop where
  old : ∀ b o, b ≠ a → H b = some o → (_ : NoT o := by intro _ z; cases z) → H' b = some o
  tab : ∀ b ps, H b = some (.tbl ps) → ∃ qs, H' b = some (.tbl qs)
  good : Good H → Good H'
instance {a : Addr} {H H' : Hp} : CoeFun (But a H H') fun _ => ∀ b o, b ≠ a → H b = some o → (_ : NoT o := by intro _ z; cases z) → H' b = some o := ⟨@But.old _ a H H'⟩
theorem But.refl {a : Addr} (H : Hp) : But a H H := ⟨fun _ _ _ h _ => h, fun _ ps h => ⟨ps, h⟩, id⟩
theorem But.trans {a : Addr} {H H1 H2 : Hp} (p : But a H H1) (q : But a H1 H2) : But a H H2 :=
  ⟨fun b o n h k => q.old b o n (p.old b o n h k) k, fun b ps h => let ⟨qs, e⟩ := p.tab b ps h; q.tab b qs e, fun g => q.good (p.good g)⟩
theorem But.same {a : Addr} {H H' : Hp} (p : Same H H') : But a H H' := ⟨fun b o _ h k => p.old b o h k, p.tab, p.good⟩
theorem But.put {a : Addr} {H : Hp} {o u : HO} (h : H a = some u) (m : Mut u := by trivial) : But a H (upd H a o) where
  old b x n e _ := by
    rw [upd_ne n]
    exact e
  tab b ps e := ⟨ps, by
    rw [upd_ne (fun z => by rw [z, h] at e; rw [Option.some.inj e] at m; exact m)]
    exact e⟩
  good g := fun t ht => tabS_upd (g t ht) (.inr ⟨u, h, m⟩)
theorem But.new {a : Addr} {H : Hp} {p : Addr} {o : HO} (h : H p = none) : But a H (upd H p o) := But.same (same_new h)
theorem But.free {a p : Addr} {H H' : Hp} (s : But a H H') (n : H' p = none) (na : p ≠ a) : H p = none := by
  cases e : H p with
  | none => rfl
  | some o =>
    by_cases k : NoT o
    · rw [s.old _ _ na e k] at n
      cases n
    · have ⟨ps, z⟩ : ∃ ps, o = .tbl ps := Classical.byContradiction fun c => k fun ps z => c ⟨ps, z⟩
      rw [z] at e
      obtain ⟨qs, e'⟩ := s.tab _ _ e
      rw [e'] at n
      cases n
/-- a new object, changed since: what stood stands -/
theorem But.grown {a p : Addr} {H H1 H2 : Hp} {o u : HO} (b1 : But a H H1) (n : H1 p = none) (b2 : But a H H2) (h : H2 p = some u) (m : Mut u := by trivial) : But a H (upd H2 p o) where
  old b x hb e k := by
    rw [upd_ne (fun z => by rw [z] at e hb; rw [b1.old _ _ hb e k] at n; cases n)]
    exact b2.old b x hb e k
  tab b ps e := by
    obtain ⟨qs, e'⟩ := b2.tab b ps e
    exact ⟨qs, by rw [upd_ne (fun z => by rw [z, h] at e'; rw [Option.some.inj e'] at m; exact m)]; exact e'⟩
  good g := fun t ht => tabS_upd (b2.good g t ht) (.inr ⟨u, h, m⟩)
/-- a new object, made since and changed: what stood stands -/
theorem Same.grown {p : Addr} {H H1 H2 : Hp} {o u : HO} (b1 : Same H H1) (n : H1 p = none) (b2 : Same H H2) (h : H2 p = some u) (m : Mut u := by trivial) : Same H (upd H2 p o) where
  old b x e k := by
    rw [upd_ne (fun z => by rw [z] at e; rw [b1.old _ _ e k] at n; cases n)]
    exact b2.old b x e k
  tab b ps e := by
    obtain ⟨qs, e'⟩ := b2.tab b ps e
    exact ⟨qs, by rw [upd_ne (fun z => by rw [z, h] at e'; rw [Option.some.inj e'] at m; exact m)]; exact e'⟩
  good g := fun t ht => tabS_upd (b2.good g t ht) (.inr ⟨u, h, m⟩)
/-- a table has grown by a new code object of the name that it bears -/
theorem same_code {H : Hp} {P c : Addr} {q : Str} {ps : Array Value} {pos : Pos} (tab : H P = some (.tbl ps)) (tri : TriplesOk ps.toList) (bears : ∀ (pos : Pos) (cv : Value), codeAmong pos ps.toList = some cv → ∃ c, cv = .ref c ∧ H c = some (LamX.CodeO c q)) (nC : H c = none) (hm : (P, q) ∈ Tabl.T) :
    Same H (upd (upd H P (.tbl (ps ++ #[rawInt pos.line, rawInt pos.col, .ref c]))) c (LamX.CodeO c q)) := by
  have keep : ∀ b o, H b = some o → NoT o → upd (upd H P (.tbl (ps ++ #[rawInt pos.line, rawInt pos.col, .ref c]))) c (LamX.CodeO c q) b = some o := fun b o e n => by
    rw [upd_ne (ne_of_none e nC), upd_ne (fun z => n ps (Option.some.inj (e.symm.trans (by rw [z]; exact tab))))]
    exact e
  have list : (ps ++ #[rawInt pos.line, rawInt pos.col, Value.ref c]).toList = ps.toList ++ [rawInt pos.line, rawInt pos.col, .ref c] := by simp
  refine ⟨keep, fun b qs e => ?_, fun g p hp => ?_⟩
  · by_cases z : b = P
    · exact ⟨_, by rw [z, upd_ne (ne_of_none tab nC), upd_same]⟩
    · exact ⟨qs, by rw [upd_ne (ne_of_none e nC), upd_ne z]; exact e⟩
  · by_cases z : p.1 = P
    · have e2 : p.2 = q := Tabl.one _ hp _ hm z
      rw [z, e2]
      refine ⟨_, by rw [upd_ne (ne_of_none tab nC), upd_same], by rw [list]; exact PySem.TriplesOk_snoc _ _ _ _ tri, fun p' cv h => ?_⟩
      rw [list] at h
      rcases LamX.among_app _ tri h with k | k
      · obtain ⟨c0, e1, e2⟩ := bears p' cv k
        exact ⟨c0, e1, keep _ _ e2 LamX.codeO_ne⟩
      · exact ⟨c, k, upd_same⟩
    · obtain ⟨qs, a1, a2, a3⟩ := g p hp
      refine ⟨qs, by rw [upd_ne (ne_of_none a1 nC), upd_ne z]; exact a1, a2, fun p' cv h => ?_⟩
      obtain ⟨c0, e1, e2⟩ := a3 p' cv h
      exact ⟨c0, e1, keep _ _ e2 LamX.codeO_ne⟩
end
end Lb

namespace Lb
open PySem PySem.Spec PyProof.Rows L2
/-- the tables of the text's defs are empty when the law is called -/
def Empty (names : List Str) (K : PySem.W.Frag) (mg : Str → Option Value) (h : Heap) : Prop :=
  ∀ (x : Str) (f c P : Addr) (o : Obj) (fd : FuncData) (e : Value) (dd : Option Addr) (vs : Array Value) (sl : Array (Option Value)), x ∈ names → mg x = some (.ref f) → K.lookup f = some o → o.data = .func fd → fd.code = .ref c →
    K.lookup c = some ⟨e, dd, .fields vs, sl⟩ → vs[11]? = some (.ref P) → h.get? P = some { cls := .none, data := .fields #[] }
/-- the law: called with at most 63 ints it answers True -/
def sp_law [Tabl] (K : PySem.W.Frag) : Sp := fun vs H Q _ => ∃ (a : Addr) (ns : List Int), vs = [.ref a] ∧ SqL K H a (ns.map V.int) ∧ ns.length ≤ 63 ∧ Good H ∧ ∀ H', Q (.bl true) H'
theorem walk_tabs {l : PySem.W.OpenLaw} {n k : Nat} {q : Program} {loose : List Str} {XP : (Str → Option Value) → Heap → Prop} {YP : World → Heap → Prop} {d : DefRec} {K : Params → PySem.W.Frag} {CX : World → CXT} {x : Str} (most : l.most = some n) (small : n ≤ sizeLine) (plain : d.params.defaults = []) (room : Room k callerA)
    (inK : ∀ (w : World) (h : Heap), YP w h → (K w.params).In h) (F : ∀ (w : World) (mg : Str → Option Value) (fa : Addr) (h : Heap), (K w.params).In h → h.Ns mainGlobals mg → mg d.name = some (.ref fa) → Empty ((recsOf q).map (·.name)) (K w.params) mg h → LamX.LawAtS l w (K w.params) (CX w) k n x mg fa h)
    (none_out : ∀ (w : World) (H : Hp) (s : Shared) (e : Value) (s' : Shared), ¬ CX w [] H s (fun _ _ _ => False) e s') : PySem.W.WalkO q loose XP YP l.row.toRowW d [] (fun f vs => PySem.call f vs) := by
  refine Att.attach_callB most plain fun w s0 s mg mb fa o pm cd doc a vs ns G Y ho hd hcd global obj its len bits gens => ?_
  have KX := inK w _ Y
  have E : Empty ((recsOf q).map (·.name)) (K w.params) mg s.heap := fun y f c P o1 fd1 e dd vs1 sl hy k1 k2 k3 k4 k5 k6 => by
    obtain ⟨r, hr, er⟩ := List.mem_map.mp hy
    obtain ⟨_, _, _, _, _, t1, t2, t3, t4, t5, ⟨oc, vc, u1, _, u3, u4⟩, t6⟩ := G.T.tab r hr
    rw [show r.name = y from er, k1] at t1
    cases t1
    cases (KX _ _ k2).symm.trans t2
    cases k3.symm.trans t3
    cases k4.symm.trans t4
    cases (KX _ _ k5).symm.trans u1
    cases u3
    cases k6.symm.trans u4
    exact t6
  obtain ⟨fd, cs, sp, c1, c2, c3, c4, c5, c6⟩ := F w mg fa _ KX G.T.g global E
  exact LamX.law_callTs KX G.T.g G.T.b G.T.builtins G.T.nolimit gens c1 c2 c3 G.T.bmain obj its (Nat.le_trans len small) room c6 c4 (fun H e hS => c5 H a ns len bits e hS) fun H e s' z => none_out w H s e s' z
end Lb

namespace Lb
open PySem PySem.Spec PyProof.Rows L2
/-! ### plain values by their outermost kind -/
def NoTxt (H : Hp) (v : V) : Prop := v = .non ∨ (∃ b, v = .bl b) ∨ (∃ i, v = .int i) ∨ ∃ p xs, v = .ref p ∧ (H p = some (.lst xs) ∨ H p = some (.tup xs))
def Shal (H : Hp) (v : V) : Prop := (∃ x : Str, v = .str x ∧ x.length ≤ 1000000) ∨ NoTxt H v
theorem NoTxt.same [Tabl] {H H' : Hp} {v : V} (h : NoTxt H v) (s : Same H H') : NoTxt H' v := by
  rcases h with h | h | h | ⟨p, xs, e, h⟩
  · exact .inl h
  · exact .inr (.inl h)
  · exact .inr (.inr (.inl h))
  · exact .inr (.inr (.inr ⟨p, xs, e, h.elim (fun q => .inl (s _ _ q)) fun q => .inr (s _ _ q)⟩))
theorem Shal.same [Tabl] {H H' : Hp} {v : V} (h : Shal H v) (s : Same H H') : Shal H' v := h.elim .inl fun q => .inr (q.same s)
theorem shal_str {H : Hp} {x : Str} (h : x.length ≤ 1000000) : Shal H (.str x) := .inl ⟨x, rfl, h⟩
theorem shal_int {H : Hp} {i : Int} : Shal H (.int i) := .inr (.inr (.inr (.inl ⟨i, rfl⟩)))
theorem noTxt_str {H : Hp} {x : Str} (h : NoTxt H (.str x)) : False := by
  rcases h with h | ⟨b, h⟩ | ⟨i, h⟩ | ⟨p, xs, h, _⟩ <;> cases h
def isStr : V → Bool
  | .str _ => true
  | _ => false
def isInt : V → Bool
  | .int _ => true
  | _ => false
def isBl : V → Bool
  | .bl _ => true
  | _ => false
/-- isinstance(v, str) -/
theorem isi_str {K : PySem.W.Frag} {H : Hp} {v : V} (h : Shal H v) : ∃ t : Value, TyX K H v t ∧ PySem.W.kitOne K t (.type "str") = some (isStr v) := by
  rcases h with ⟨x, rfl, _⟩ | rfl | ⟨b, rfl⟩ | ⟨i, rfl⟩ | ⟨p, xs, rfl, h | h⟩
  · exact ⟨_, .base (.str x), kit_ty (show kitB "str" "str" = some true by decide +kernel)⟩
  · exact ⟨_, .base .non, kit_ty (show kitB "NoneType" "str" = some false by decide +kernel)⟩
  · exact ⟨_, .base (.bl b), kit_ty (show kitB "bool" "str" = some false by decide +kernel)⟩
  · exact ⟨_, .base (.int i), kit_ty (show kitB "int" "str" = some false by decide +kernel)⟩
  · exact ⟨_, .base (.lst h), kit_ty (show kitB "list" "str" = some false by decide +kernel)⟩
  · exact ⟨_, .base (.tup h), kit_ty (show kitB "tuple" "str" = some false by decide +kernel)⟩
/-- isinstance(v, int) -/
theorem isi_int {K : PySem.W.Frag} {H : Hp} {v : V} (h : Shal H v) : ∃ t : Value, TyX K H v t ∧ PySem.W.kitOne K t (.type "int") = some (isInt v || isBl v) := by
  rcases h with ⟨x, rfl, _⟩ | rfl | ⟨b, rfl⟩ | ⟨i, rfl⟩ | ⟨p, xs, rfl, h | h⟩
  · exact ⟨_, .base (.str x), kit_ty (show kitB "str" "int" = some false by decide +kernel)⟩
  · exact ⟨_, .base .non, kit_ty (show kitB "NoneType" "int" = some false by decide +kernel)⟩
  · exact ⟨_, .base (.bl b), kit_ty (show kitB "bool" "int" = some true by decide +kernel)⟩
  · exact ⟨_, .base (.int i), kit_ty (show kitB "int" "int" = some true by decide +kernel)⟩
  · exact ⟨_, .base (.lst h), kit_ty (show kitB "list" "int" = some false by decide +kernel)⟩
  · exact ⟨_, .base (.tup h), kit_ty (show kitB "tuple" "int" = some false by decide +kernel)⟩
/-- isinstance(v, bool) -/
theorem isi_bool {K : PySem.W.Frag} {H : Hp} {v : V} (h : Shal H v) : ∃ t : Value, TyX K H v t ∧ PySem.W.kitOne K t (.type "bool") = some (isBl v) := by
  rcases h with ⟨x, rfl, _⟩ | rfl | ⟨b, rfl⟩ | ⟨i, rfl⟩ | ⟨p, xs, rfl, h | h⟩
  · exact ⟨_, .base (.str x), kit_ty (show kitB "str" "bool" = some false by decide +kernel)⟩
  · exact ⟨_, .base .non, kit_ty (show kitB "NoneType" "bool" = some false by decide +kernel)⟩
  · exact ⟨_, .base (.bl b), kit_ty (show kitB "bool" "bool" = some true by decide +kernel)⟩
  · exact ⟨_, .base (.int i), kit_ty (show kitB "int" "bool" = some false by decide +kernel)⟩
  · exact ⟨_, .base (.lst h), kit_ty (show kitB "list" "bool" = some false by decide +kernel)⟩
  · exact ⟨_, .base (.tup h), kit_ty (show kitB "tuple" "bool" = some false by decide +kernel)⟩
theorem isStr_of {v : V} (h : isStr v = true) : ∃ x, v = .str x := by
  cases v <;> first | exact ⟨_, rfl⟩ | cases h
theorem isInt_of {v : V} (h : isInt v = true) : ∃ x, v = .int x := by
  cases v <;> first | exact ⟨_, rfl⟩ | cases h
theorem Shal.text {H : Hp} {x : Str} (h : Shal H (.str x)) : x.length ≤ 1000000 := by
  rcases h with ⟨y, e, l⟩ | h
  · cases e
    exact l
  · exact (noTxt_str h).elim
end Lb

namespace L2
open PySem PySem.Spec PyProof.Rows
/-! zip of two texts, walked by a for: the pairs of their signs, as many as the shorter one has -/
def Itzs (x y : Str) : It :=
  ⟨fun i _ => i < x.cps.size ∧ i < y.cps.size,
    fun i H v H' => ∃ T c d, v = .ref T ∧ H T = none ∧ x.cps[i]? = some c ∧ y.cps[i]? = some d ∧ H' = upd H T (.tup [.str ⟨#[c]⟩, .str ⟨#[d]⟩]),
    fun i _ => i ≤ x.cps.size ∧ i ≤ y.cps.size ∧ (i = x.cps.size ∨ i = y.cps.size)⟩
theorem turn_zipS {P : Program} {w : World} {K : PySem.W.Frag} {elts : List Expr} {kk : Nat} {tpos : Pos} {x y : Str} {t1 t2 : Tok} {z TI TO i1 i2 : Addr} (D : ZipSep2 z TI TO i1 i2 [i1] [i2]) :
    Turn P w K (.Tuple elts kk tpos) (Itzs x y) [z, TI, TO, i1, i2] z (fun i h => IsZip h z TI TO .none ∧ IsPair h TI (.ref i1) (.ref i2) ∧ (∃ a b, IsPair h TO a b) ∧ h.IsStrIter i1 (strIterType x) x t1 i ∧ h.IsStrIter i2 (strIterType y) y t2 i) where
  mem := by simp
  obj := fun i h st c hc => by
    obtain ⟨hz, hTI, ⟨a, b, hTO⟩, ⟨o1, e1, _, d1⟩, ⟨o2, e2, _, d2⟩⟩ := st
    have e' : c = z ∨ c = TI ∨ c = TO ∨ c = i1 ∨ c = i2 := by simpa using hc
    rcases e' with q | q | q | q | q
    · rw [q]; exact ⟨_, hz, fun v q => nomatch q⟩
    · rw [q]; exact ⟨_, hTI, fun v q => nomatch q⟩
    · rw [q]; exact ⟨_, hTO, fun v q => nomatch q⟩
    · rw [q]; exact ⟨o1, e1, fun v q => by rw [d1] at q; cases q⟩
    · rw [q]; exact ⟨o2, e2, fun v q => by rw [d2] at q; cases q⟩
  keep := fun i h h' st k => by
    obtain ⟨hz, hTI, ⟨a, b, hTO⟩, ⟨o1, e1, r1⟩, ⟨o2, e2, r2⟩⟩ := st
    exact ⟨k z (by simp) _ hz, k TI (by simp) _ hTI, ⟨a, b, k TO (by simp) _ hTO⟩, ⟨o1, k i1 (by simp) _ e1, r1⟩, ⟨o2, k i2 (by simp) _ e2, r2⟩⟩
  item := by
    intro X hP hw hK hc i pins s σ H E I hf st hg
    subst hP hw hK
    obtain ⟨hz, hTI, ⟨x0, y0, hTO⟩, h1, h2⟩ := st
    have hzl : z < s.heap.objs.size := Heap.lt_size hz
    have hh : X.A.in1.handled = none := I.ok.hd hc
    refine wpAny_pyNext_zipD2_item D (Draws.text hh i1 x t1) (Draws.text hh i2 y t2) hz hTI hTO h1 h2 hg.1 hg.2 fun v1 v2 h' tk hv1 hv2 z' TO' h1' h2' hT hsz hk => ?_
    obtain ⟨c, u, hc1, rfl⟩ := hv1
    obtain ⟨d, u', hd1, rfl⟩ := hv2
    refine ⟨_, rfl, wpAny_letOwnedTupleGo_zip (s := { s with heap := h', toks := tk }) z' fun h'' z'' sb => ?_⟩
    have hT2 : h''.get? s.heap.objs.size = some { cls := .type "tuple", data := .seq #[.str ⟨#[c]⟩ u, .str ⟨#[d]⟩ u'] } := (sb.2 _ (Nat.ne_of_gt hzl)).trans hT
    have new : ObjOk X.prog X.w (upd H s.heap.objs.size (.tup [.str ⟨#[c]⟩, .str ⟨#[d]⟩])) h'' s.heap.objs.size (.tup [.str ⟨#[c]⟩, .str ⟨#[d]⟩]) :=
      ⟨by show 2 ≤ sizeLine; decide, [.str ⟨#[c]⟩ u, .str ⟨#[d]⟩ u'], .cons ⟨_, rfl⟩ (.cons ⟨_, rfl⟩ .nil), ⟨_, hT2, rfl, _, rfl⟩⟩
    have I1 : Inv X pins σ (upd H s.heap.objs.size (.tup [.str ⟨#[c]⟩, .str ⟨#[d]⟩])) { s with heap := h'', toks := tk } :=
      I.turnedNew (t' := tk) (ch := [z, TI, TO, i1, i2]) (fun c o hb q => (sb.2 c (fun q' => hb (by simp [q']))).trans (hk c o (fun q' => hb (by simp [q'])) (fun q' => hb (by simp [q'])) (fun q' => hb (by simp [q'])) (fun q' => hb (by simp [q'])) q)) hf (Nat.le_refl _) new
    have g1 : i1 ≠ z := fun e => D.zi1 e.symm
    have g2 : i2 ≠ z := fun e => D.zi2 e.symm
    obtain ⟨o1, e1, r1⟩ := h1'
    obtain ⟨o2, e2, r2⟩ := h2'
    obtain ⟨p1, f1, _⟩ := h1
    obtain ⟨p2, f2, _⟩ := h2
    refine ⟨.ref s.heap.objs.size, _, I1, rfl, ⟨_, c, d, rfl, I.hok.fresh (Nat.le_refl _), hc1, hd1, rfl⟩, ⟨z'', ?_, ⟨_, _, (sb.2 _ D.TOz).trans TO'⟩, ⟨o1, (sb.2 _ g1).trans e1, r1⟩, ⟨o2, (sb.2 _ g2).trans e2, r2⟩⟩, fun c hcm => ?_⟩
    · exact (sb.2 _ D.TIz).trans (hk _ _ D.TIz D.TITO D.TIi1 D.TIi2 hTI)
    · have hlt : c < s.heap.objs.size := by
        have e' : c = z ∨ c = TI ∨ c = TO ∨ c = i1 ∨ c = i2 := by simpa using hcm
        rcases e' with q | q | q | q | q
        · rw [q]; exact hzl
        · rw [q]; exact Heap.lt_size hTI
        · rw [q]; exact Heap.lt_size hTO
        · rw [q]; exact Heap.lt_size f1
        · rw [q]; exact Heap.lt_size f2
      rw [upd_ne (Nat.ne_of_lt hlt)]
      exact (hf c hcm).1
  done := by
    intro X hP hw hK hc i pins s σ H E I hf st hg
    subst hP hw hK
    obtain ⟨hz, hTI, ⟨x0, y0, hTO⟩, h1, h2⟩ := st
    have hh : X.A.in1.handled = none := I.ok.hd hc
    exact wpAny_pyNext_zipD2_end D (Draws.text hh i1 x t1) (Draws.text hh i2 y t2) hz hTI hTO h1 h2 hg.1 hg.2.1 hg.2.2 fun h' tk hk => ⟨rfl, I.turnedL (t' := tk) (ch := [z, TI, TO, i1, i2]) (fun c o hb q =>
      hk c o (fun q' => hb (by simp [q'])) (fun q' => hb (by simp [q'])) (fun q' => hb (by simp [q'])) (fun q' => hb (by simp [q'])) q) hf⟩
  self := fun A i s Q E st h => wpAny_pyIter_zip st.1 h
def iZipS (ta : TA) : TI := fun σ H R => ta σ H fun vs H1 => ∃ x y, vs = [.str x, .str y] ∧ R (Itzs x y) H1
theorem pi_zipS {X : Cx} {e e2 : Expr} {ta : TA} {p pos tpos : Pos} {elts : List Expr} {kk : Nat} (hg : Gl X "zip") (hm : X.mg "zip" = none) (ha : PA X [e, e2] ta)
    (hs : starEach [e, e2] X.env = (false, eval e X.env) :: starEach [e2] X.env := by rfl) (hpl : (backTo pos (starEach [e2] X.env)).any (·.1) = false := by rfl) :
    PI X (.Tuple elts kk tpos) (.Call (.Name "zip" p) [e, e2] [] pos) (iZipS ta) := by
  refine ⟨fun pins s σ H R I h => ?_⟩
  refine Call_ (ld_blt I hg hm PyProof.Rows.boot_zip (PyProof.Rows.callWith_type1 (thn (ha.run pos pins s σ H _ I h) fun us s1 ⟨vs, H1, I1, r1, q1⟩ => ?_) hs hpl))
  obtain ⟨x, y, ex, q⟩ := q1
  subst ex
  cases r1 with
  | cons r rr =>
    cases rr with
    | cons r' rr =>
      cases rr
      obtain ⟨t1, rfl⟩ := r
      obtain ⟨t2, rfl⟩ := r'
      refine zip_begins2 (begins_text x t1) (begins_text y t2) trivial trivial fun h' hz hTI hTO h1 h2 hsz hk => wpAny_pyIter_zip hz ?_
      have I2 : Inv X pins σ H1 { s1 with heap := h' } := I1.kept (t' := s1.toks) hk
      have D : ZipSep2 (s1.heap.objs.size + 4) (s1.heap.objs.size + 2) (s1.heap.objs.size + 3) s1.heap.objs.size (s1.heap.objs.size + 1) [s1.heap.objs.size] [s1.heap.objs.size + 1] := by
        constructor <;> simp <;> omega
      refine ⟨s1.heap.objs.size + 4, [s1.heap.objs.size + 4, s1.heap.objs.size + 2, s1.heap.objs.size + 3, s1.heap.objs.size, s1.heap.objs.size + 1], _, _, H1, rfl, I2, turn_zipS (t1 := t1) (t2 := t2) D, ⟨hz, hTI, ⟨_, _, hTO⟩, ⟨_, h1, rfl, rfl⟩, ⟨_, h2, rfl, rfl⟩⟩, fun c hcm => ?_, q⟩
      have e' : c = s1.heap.objs.size + 4 ∨ c = s1.heap.objs.size + 2 ∨ c = s1.heap.objs.size + 3 ∨ c = s1.heap.objs.size ∨ c = s1.heap.objs.size + 1 := by simpa using hcm
      have hle : s1.heap.objs.size ≤ c := by
        rcases e' with z | z | z | z | z <;> rw [z] <;> omega
      exact I1.fpOk hle (I1.hok.fresh hle)
end L2
namespace L2
open PySem PySem.Spec PyProof.Rows
theorem for_zipS {x y : Str} {g : TG} {tb : TS} {D : Ends} {σ : St} {H : Hp} (Pv : Nat → St → Hp → Prop) (h0 : Pv 0 σ H)
    (hs : ∀ (i c d : Nat) (T : Addr) (σ : St) (H : Hp), x.cps.toList[i]? = some c → y.cps.toList[i]? = some d → Pv i σ H → H T = none → g (.ref T) σ (upd H T (.tup [.str ⟨#[c]⟩, .str ⟨#[d]⟩])) fun σ2 H2 => tb { D with nx := Pv (i + 1), ct := Pv (i + 1), bk := D.nx } σ2 H2)
    (hd : ∀ σ H, Pv (min x.cps.toList.length y.cps.toList.length) σ H → D.nx σ H) :
    ∃ W : Nat → Nat → St → Hp → Prop, (∃ m, W 0 m σ H) ∧ ∀ i m σ H, W i m σ H →
      ((Itzs x y).stop i H ∧ D.nx σ H) ∨ ((Itzs x y).go i H ∧ ∃ N : St → Hp → Prop, (∀ σ' H', N σ' H' → ∃ m', m' < m ∧ W (i + 1) m' σ' H') ∧ ∀ v H', (Itzs x y).yld i H v H' → g v σ H' fun σ2 H2 => tb { D with nx := N, ct := N, bk := D.nx } σ2 H2) := by
  have lx : x.cps.toList.length = x.cps.size := Array.length_toList
  have ly : y.cps.toList.length = y.cps.size := Array.length_toList
  refine ⟨fun i m σ H => m = min x.cps.size y.cps.size - i ∧ i ≤ min x.cps.size y.cps.size ∧ Pv i σ H, ⟨_, rfl, Nat.zero_le _, h0⟩, ?_⟩
  rintro i m σ H ⟨rfl, hi, p⟩
  by_cases hlt : i < min x.cps.size y.cps.size
  · refine .inr ⟨⟨by omega, by omega⟩, Pv (i + 1), fun σ' H' p' => ⟨min x.cps.size y.cps.size - (i + 1), by omega, rfl, hlt, p'⟩, fun v H' yl => ?_⟩
    obtain ⟨T, c, d, rfl, nT, hc, hd, rfl⟩ := yl
    exact hs i c d T σ H (by rw [Array.getElem?_toList]; exact hc) (by rw [Array.getElem?_toList]; exact hd) p nT
  · have e : i = min x.cps.size y.cps.size := by omega
    refine .inl ⟨⟨by omega, by omega, by omega⟩, hd σ H ?_⟩
    rw [lx, ly, ← e]
    exact p
end L2

namespace Lb
/-! ### lags -/
def lcp : List Nat → List Nat → Nat
  | a :: x, b :: y => if a = b then lcp x y + 1 else 0
  | _, _ => 0
def IsLag (a b u v : List Nat) : Prop := ∃ f, a = f ++ u ∧ b = f ++ v ∧ (u = [] ∨ v = [] ∨ u.head? ≠ v.head?)
theorem lcp_le : ∀ x y : List Nat, lcp x y ≤ x.length ∧ lcp x y ≤ y.length
  | [], _ => ⟨Nat.le_refl _, Nat.zero_le _⟩
  | _ :: _, [] => ⟨Nat.zero_le _, Nat.le_refl _⟩
  | a :: x, b :: y => by
    unfold lcp
    have ih := lcp_le x y
    by_cases h : a = b
    · rw [if_pos h, List.length_cons, List.length_cons]
      omega
    · rw [if_neg h]
      exact ⟨Nat.zero_le _, Nat.zero_le _⟩
theorem lcp_lag : ∀ x y : List Nat, IsLag x y (x.drop (lcp x y)) (y.drop (lcp x y))
  | [], y => ⟨[], rfl, rfl, .inl rfl⟩
  | a :: x, [] => ⟨[], rfl, rfl, .inr (.inl rfl)⟩
  | a :: x, b :: y => by
    unfold lcp
    by_cases h : a = b
    · subst h
      rw [if_pos rfl]
      obtain ⟨f, e1, e2, e3⟩ := lcp_lag x y
      exact ⟨a :: f, congrArg (a :: ·) e1, congrArg (a :: ·) e2, e3⟩
    · rw [if_neg h]
      exact ⟨[], rfl, rfl, .inr (.inr fun e => h (Option.some.inj e))⟩
theorem IsLag.uniq {a b u v u' v' : List Nat} (h : IsLag a b u v) (k : IsLag a b u' v') : u = u' ∧ v = v' := by
  obtain ⟨f, e1, e2, e3⟩ := h
  obtain ⟨g, d1, d2, d3⟩ := k
  subst e1
  subst e2
  induction f generalizing g with
  | nil =>
    cases g with
    | nil => exact ⟨d1, d2⟩
    | cons c g =>
      have d1' : u = c :: (g ++ u') := d1
      have d2' : v = c :: (g ++ v') := d2
      subst d1'
      subst d2'
      rcases e3 with e | e | e
      · cases e
      · cases e
      · exact absurd rfl e
  | cons c f ih =>
    cases g with
    | nil =>
      have d1' : c :: (f ++ u) = u' := d1
      have d2' : c :: (f ++ v) = v' := d2
      subst d1'
      subst d2'
      rcases d3 with e | e | e
      · cases e
      · cases e
      · exact absurd rfl e
    | cons d g =>
      have x1 : c :: (f ++ u) = d :: (g ++ u') := d1
      have x2 : c :: (f ++ v) = d :: (g ++ v') := d2
      exact ih g (List.cons.inj x1).2 (List.cons.inj x2).2
theorem IsLag.swap {a b u v : List Nat} (h : IsLag a b u v) : IsLag b a v u := by
  obtain ⟨f, e1, e2, e3⟩ := h
  refine ⟨f, e2, e1, ?_⟩
  rcases e3 with e | e | e
  · exact .inr (.inl e)
  · exact .inl e
  · exact .inr (.inr fun z => e z.symm)
/-- moved on -/
theorem IsLag.more {a b u v x y u' v' : List Nat} (h : IsLag a b u v) (k : IsLag (u ++ x) (v ++ y) u' v') : IsLag (a ++ x) (b ++ y) u' v' := by
  obtain ⟨f, e1, e2, e3⟩ := h
  obtain ⟨g, d1, d2, d3⟩ := k
  refine ⟨f ++ g, ?_, ?_, d3⟩
  · rw [e1, List.append_assoc, d1, List.append_assoc]
  · rw [e2, List.append_assoc, d2, List.append_assoc]
theorem IsLag.front {a b u v : List Nat} (c : List Nat) (h : IsLag a b u v) : IsLag (c ++ a) (c ++ b) u v := by
  obtain ⟨f, e1, e2, e3⟩ := h
  exact ⟨c ++ f, by rw [e1, List.append_assoc], by rw [e2, List.append_assoc], e3⟩
theorem IsLag.idem {a b u v : List Nat} (h : IsLag a b u v) : IsLag u v u v := by
  obtain ⟨f, e1, e2, e3⟩ := h
  exact ⟨[], rfl, rfl, e3⟩
theorem IsLag.le {a b u v : List Nat} (h : IsLag a b u v) : u.length ≤ a.length ∧ v.length ≤ b.length := by
  obtain ⟨f, e1, e2, e3⟩ := h
  rw [e1, e2, List.length_append, List.length_append]
  omega
theorem lcp_step {x y : List Nat} {i : Nat} {c d : Nat} (h : x.take i = y.take i) (hc : x[i]? = some c) (hd : y[i]? = some d) : (c = d → x.take (i + 1) = y.take (i + 1)) ∧ (c ≠ d → lcp x y = i) := by
  refine ⟨fun e => ?_, fun n => ?_⟩
  · subst e
    rw [List.take_add_one, List.take_add_one, h, hc, hd]
  · induction i generalizing x y with
    | zero =>
      cases x with
      | nil => cases hc
      | cons a x =>
        cases y with
        | nil => cases hd
        | cons b y =>
          have e1 : a = c := Option.some.inj hc
          have e2 : b = d := Option.some.inj hd
          unfold lcp
          rw [e1, e2, if_neg n]
    | succ i ih =>
      cases x with
      | nil => cases hc
      | cons a x =>
        cases y with
        | nil => cases hd
        | cons b y =>
          have e : a :: x.take i = b :: y.take i := h
          unfold lcp
          rw [if_pos (List.cons.inj e).1, ih (List.cons.inj e).2 hc hd]
theorem lcp_all {x y : List Nat} (h : x.take (min x.length y.length) = y.take (min x.length y.length)) : lcp x y = min x.length y.length := by
  induction x generalizing y with
  | nil =>
    show 0 = _
    rw [List.length_nil, Nat.zero_min]
  | cons a x ih =>
    cases y with
    | nil => rfl
    | cons b y =>
      rw [List.length_cons, List.length_cons, Nat.succ_min_succ] at *
      have e : a :: x.take (min x.length y.length) = b :: y.take (min x.length y.length) := h
      unfold lcp
      rw [if_pos (List.cons.inj e).1, ih (List.cons.inj e).2]
end Lb

namespace Lb
open PySem PySem.Spec PyProof.Rows L2
/-! ### the store that the draws come from -/
/-- the draws' store at a, its cells at c -/
def Sto (H : Hp) (a c : Addr) : Prop := ∃ (ns : List Int) (i b t s : Int), H a = some (.lst [.ref c, .int i, .int b, .int t, .int s]) ∧ H c = some (.lst (ns.map V.int)) ∧ 0 ≤ i ∧ c ≠ a
theorem Sto.to {H H' : Hp} {a c : Addr} (h : Sto H a c) (e1 : H' a = H a) (e2 : H' c = H c) : Sto H' a c := by
  obtain ⟨ns, i, b, t, s, h1, h2, h3, h4⟩ := h
  exact ⟨ns, i, b, t, s, e1.trans h1, e2.trans h2, h3, h4⟩
theorem Sto.same [Tabl] {H H' : Hp} {a c : Addr} (h : Sto H a c) (e : Same H H') : Sto H' a c := by
  obtain ⟨ns, i, b, t, s, h1, h2, h3, h4⟩ := h
  exact ⟨ns, i, b, t, s, e _ _ h1, e _ _ h2, h3, h4⟩
theorem Sto.new {H : Hp} {a c p : Addr} {o : HO} (h : Sto H a c) (e : H p = none) : Sto (upd H p o) a c := by
  obtain ⟨ns, i, b, t, s, h1, h2, h3, h4⟩ := h
  exact ⟨ns, i, b, t, s, by rw [upd_ne (ne_of_none h1 e)]; exact h1, by rw [upd_ne (ne_of_none h2 e)]; exact h2, h3, h4⟩
theorem Sto.ne {H : Hp} {a c p : Addr} (h : Sto H a c) (e : H p = none) : p ≠ a ∧ p ≠ c := by
  obtain ⟨ns, i, b, t, s, h1, h2, h3, h4⟩ := h
  exact ⟨fun z => (by rw [z, h1] at e; cases e), fun z => (by rw [z, h2] at e; cases e)⟩
theorem Sto.put {H : Hp} {a c p : Addr} {o : HO} (h : Sto H a c) (n : p ≠ a ∧ p ≠ c) : Sto (upd H p o) a c :=
  h.to (upd_ne (Ne.symm n.1)) (upd_ne (Ne.symm n.2))
theorem ints_at {ns : List Int} {i : Int} (h0 : 0 ≤ i) (h1 : i < ((ns.map V.int).length : Nat)) : ∃ n, atI (ns.map V.int) i = some (.int n) := by
  obtain ⟨j, rfl⟩ := Int.eq_ofNat_of_zero_le h0
  have hj : j < ns.length := by
    rw [List.length_map] at h1
    exact Int.ofNat_lt.mp h1
  exact ⟨ns[j], atI_nat (by rw [List.getElem?_map, List.getElem?_eq_getElem hj]; rfl)⟩
theorem ne1 {P : Prop} [Decidable P] (h : P) : decide P = true := decide_eq_true h
theorem ne0 {P : Prop} [Decidable P] (h : ¬ P) : decide P = false := decide_eq_false h
theorem iteC {c : Bool} {A B : Prop} (h : c = true) (a : A) : if c = true then A else B := by
  rw [if_pos h]
  exact a
theorem iteN {c : Bool} {A B : Prop} (h : c = false) (b : B) : if c = true then A else B := by
  rw [h]
  exact iteF b
/-- a row that is not come to -/
theorem ps_dead {X : Cx} {s : Stmt} : PS X s (fun _ _ _ => False) := ⟨fun _ _ _ _ _ _ h => h.elim⟩
end Lb

namespace L2
open PySem PySem.Spec PyProof.Rows
theorem pip_of {X : Cx} {op : Operator} {r : TIp} (h : OpR X (inplaceOp op) r) : PIp X op r := fun pins s σ H x y v u Q I r1 r2 q => h pins s σ H x y v u Q I r1 r2 q
/-! min, max of a list of texts -/
def rMinS (K : PySem.W.Frag) : List V → Hp → VK → Prop := fun vs H Q => ∃ (a : Addr) (x : Str) (xs : List Str), vs = [V.ref a] ∧ SqL K H a ((x :: xs).map V.str) ∧ Q (.str (PySem.W.minOf x xs)) H
def rMaxS (K : PySem.W.Frag) : List V → Hp → VK → Prop := fun vs H Q => ∃ (a : Addr) (x : Str) (xs : List Str), vs = [V.ref a] ∧ SqL K H a ((x :: xs).map V.str) ∧ Q (.str (PySem.W.maxOf x xs)) H
theorem cr_minS {X : Cx} (hc : X.calm = true) (hu : X.A.units + 64 < cLine) : CallR X (.builtin "min") (rMinS X.K) := by
  intro pins s σ H vs us Q I r h
  obtain ⟨a, x, xs, rfl, hs, q⟩ := h
  obtain ⟨its, rv, hl, _⟩ := I.list hs
  rw [Vals.ref1 r]
  have hd : PySem.W.Datum.depth Str ≤ 1 := by decide
  exact PySem.W.min_list_datum (x := x) (xs := xs) (I.ok.hd hc) hl.isList (PySem.W.HoldAll.of_strs rv.strs) (by omega) fun i v h' tk hi hv hk =>
    ⟨.str (PySem.W.minOf x xs), H, I.kept hk, PySem.W.str_of_holds hv, q⟩
theorem cr_maxS {X : Cx} (hc : X.calm = true) (hu : X.A.units + 64 < cLine) : CallR X (.builtin "max") (rMaxS X.K) := by
  intro pins s σ H vs us Q I r h
  obtain ⟨a, x, xs, rfl, hs, q⟩ := h
  obtain ⟨its, rv, hl, _⟩ := I.list hs
  rw [Vals.ref1 r]
  have hd : PySem.W.Datum.depth Str ≤ 1 := by decide
  exact PySem.W.max_list_datum (x := x) (xs := xs) (I.ok.hd hc) hl.isList (PySem.W.HoldAll.of_strs rv.strs) (by omega) fun i v h' tk hi hv hk =>
    ⟨.str (PySem.W.maxOf x xs), H, I.kept hk, PySem.W.str_of_holds hv, q⟩
/-! rules that name the written part: for the inside of a comprehension -/
theorem ix_listK {X : Cx} (K : PySem.W.Frag) (h : X.K = K) : IxR X (rIxL K) := by
  subst h
  exact ix_list
theorem ix_tupK {X : Cx} (K : PySem.W.Frag) (h : X.K = K) : IxR X (rIxT K) := by
  subst h
  exact ix_tup
theorem op_in_seqK {X : Cx} (K : PySem.W.Frag) (h : X.K = K) : OpR X (compareOp .In) (rIn K false) := by
  subst h
  exact op_in_seq
theorem op_notIn_seqK {X : Cx} (K : PySem.W.Frag) (h : X.K = K) : OpR X (compareOp .NotIn) (rIn K true) := by
  subst h
  exact op_notIn_seq
theorem call_len_seqK {X : Cx} (K : PySem.W.Frag) (h : X.K = K) : CallR X (.builtin "len") (fun xs H Q => ∃ p ys, xs = [.ref p] ∧ (SqL K H p ys ∨ SqT K H p ys) ∧ Q (.int ys.length) H) := by
  subst h
  exact call_len_seq
end L2

namespace Lb
open PySem PySem.Spec PyProof.Rows L2
/-- a def of the text, its code object at c -/
structure FunC (K : PySem.W.Frag) (x qual : Str) (st : Stmt) (f : Addr) (fd : FuncData) (c : Addr) : Prop where
  F : Fun K x qual st f fd
  code : fd.code = .ref c
theorem FunC.ok {P : Program} {w : World} {K : PySem.W.Frag} {mg : Str → Option Value} {base : Heap} {x qual : Str} {st : Stmt} {f c : Addr} {fd : FuncData} {N ps : List Str} {k : Nat} {sp : Sp} (F : FunC K x qual st f fd c) (S : FnScope N ps (defScope st)) (len : ∀ vs H Q E, sp vs H Q E → vs.length = ps.length)
    (body : ∀ (A : Around) (outer : List Env) (s : Shared) (H : Hp) (vs : List V) (Q : VK) (E : XK), Room k (A.deeper (envOfC qual (defScope st) s.heap.objs.size f (.ref c))) → sp vs H Q E → ∃ t, PSs (cxOf CX0 P w K mg base N qual (defScope st) f (.ref c) A outer s H E).nox (defBody st) t ∧ t { nx := fun _ H' => Q .non H', rt := Q } (start N vs) H) :
    FnOk P w K mg base CX0 (k + 1) f fd ps sp := by
  obtain ⟨⟨⟨_, _, _, _, _, _, cdv, _, _, e, l, cd⟩, _⟩, code⟩ := F
  rw [e] at code
  have ec : cdv = .ref c := code
  rw [e] at l ⊢
  rw [ec] at l cd ⊢
  exact fn_of l cd S len fun A outer s H vs Q E hr hs => let ⟨t, h, q⟩ := body A outer s H vs Q E hr hs; ⟨t, h.nox, q⟩
theorem FunC.kp {K : PySem.W.Frag} {x qual : Str} {st : Stmt} {f c : Addr} {fd : FuncData} (F : FunC K x qual st f fd c) : PySem.W.keepIn K (.ref f) = true := F.F.kp
end Lb

namespace GQ
open PySem PySem.Spec PyProof.Rows L2 GxR
open Lb (Tabl Good)
/-! ### all(.. for x in e), any(..) over a text e, where the test looks at names of the def or of the module
`Elt`: what the test is worth for the sign c in the generator's own frame; h1 is the heap behind e, and all of it but the table at P stands there -/
def Elt (X : Cx) (P : Addr) (h1 : Heap) (scope : Scope) (x : Str) (elt : Expr) (pb : Nat → Bool) : Prop :=
  ∀ (env : Env) (A' : Around) (E' : Value → Shared → Prop) (c : Nat) (t : Tok) (r : Shared) (m : Str → Option Value), env.scope = scope → env.cells = cloFrom X.env.cells scope.names [] → env.globals = X.env.globals → A'.handled = none →
    r.heap.Ns env.locals m → m x = some (.str ⟨#[c]⟩ t) → (∀ b u, b ≠ P → h1.get? b = some u → r.heap.get? b = some u) → wpAny (model X.prog X.w) A' (eval elt env) (fun y r' => y = .bool (pb c) ∧ Keeps r r') E' r
/-- the walk over the signs: the i-th answer -/
def Ans (pb : Nat → Bool) (a : Str) : Nat → Value → Prop := fun i y => ∃ cc, a.cps[i]? = some cc ∧ y = .bool (pb cc)
theorem ans_truth {prog : Program} {w : World} {A : Around} {pb : Nat → Bool} {a : Str} {n : Nat} (hn : n = a.cps.size) :
    TruthOf prog w A (fun j y => ∃ i, (List.range n)[j]? = some i ∧ Ans pb a i y) (trF pb a.cps.toList) := by
  intro j y sj Qj Ej hy hq
  obtain ⟨i, hij, cc, hcc, rfl⟩ := hy
  have hj : j < (List.range n).length := (List.getElem?_eq_some_iff.mp hij).1
  rw [List.getElem?_eq_getElem hj, List.getElem_range] at hij
  cases hij
  have ht : a.cps.toList[j]? = some cc := (Array.getElem?_toList ..).trans hcc
  have hq' : Qj (trF pb a.cps.toList j) sj := hq
  rw [trF_some ht] at hq'
  exact wpAny_truthy_bool hq'
section
variable {X : Cx} {pins : List (Addr × Obj)} {σ : L2.St} {H : Hp} {s : Shared}
variable [Tabl]
/-- the generator over the signs of a, ready to be walked in the state s5 -/
def GoesOver (X : Cx) (pins : List (Addr × Obj)) (σ : L2.St) (H1 : Hp) (a : Str) (pb : Nat → Bool) (g : Addr) (s5 : Shared) : Prop :=
  ∃ (fp wr : List Addr) (G : Array GenState → Array GenState → Prop) (F : Nat → Value → Prop) (St : Nat → Shared → Prop), WalksS X.prog X.w X.A.in1 g fp wr G a.cps.size F St ∧ St 0 s5 ∧ TruthOf X.prog X.w X.A.in1 F (trF pb a.cps.toList) ∧
    ∀ s', Moved wr G s5 s' → ∃ H2, Lb.Same H1 H2 ∧ Inv X pins σ H2 s'
theorem gen_txt {c P : Addr} {elt iter : Expr} {x : Str} {px gpos : Pos} {scope : Scope} {te : TE} {k : Nat} {Q' : Value → Shared → Prop} {R : Str → (Nat → Bool) → Hp → Prop} {Cn : L2.St → Hp → (Nat → Bool) → Prop}
    (hr : Room k X.A) (TB : LamX.TabB X.base X.mg c P) (hmem : (P, X.env.qual ++ "<genexpr>") ∈ Tabl.T) (hcode : X.env.code = .ref c) (S : GenS X.env scope x) (hi : PE X iter te)
    (hel : ∀ (σ : L2.St) (H1 : Hp) (s1 : Shared) (pb : Nat → Bool), Inv X pins σ H1 s1 → Good H1 → Cn σ H1 pb → Elt X P s1.heap scope x elt pb) (hs : ∀ v, genFold iter X.env v = pure v) (I : Inv X pins σ H s)
    (h : te σ H fun v H1 => ∃ (a : Str) (pb : Nat → Bool), v = .str a ∧ Good H1 ∧ Cn σ H1 pb ∧ R a pb H1)
    (hQ : ∀ a pb H1 g s5, R a pb H1 → GoesOver X pins σ H1 a pb g s5 → Q' (.ref g) s5) :
    wpAny (model X.prog X.w) X.A (eval (.GeneratorExp elt [⟨.Name x px, iter, [], 0⟩] scope gpos) X.env) Q' X.xe s := by
  have hd := hr.dp
  refine wpAny_GeneratorExp_walksQ hr.hd S.co (closure_ok S.free) S.cell S.dot S.loc S.kind (by omega) ?_ hs
  refine thn (hi.run pins s σ H _ I h) fun xv s1 hx1 => ?_
  obtain ⟨v, H1, I1, r1, a, pb, rfl, good, cn, rr⟩ := hx1
  obtain ⟨ps, tabP, tri, bears⟩ := good _ hmem
  obtain ⟨tk0, rfl⟩ := _root_.id r1
  have E1 := hel σ H1 s1 pb I1 good cn
  refine wpAny_pyIter_str fun io St W st0 => ?_
  -- the heap with the iterator: hp
  have oldP : s1.heap.get? P = some { cls := .none, data := .fields ps } := I1.hok P _ tabP
  have ltP : P < s1.heap.objs.size := Heap.lt_size oldP
  have nowP : (s1.heap.push io).get? P = some { cls := .none, data := .fields ps } := Heap.get?_push_of_some _ oldP
  have codeH : PySem.W.CodeHd (s1.heap.push io) c P := TB.code.keeps fun b u e => Heap.get?_push_of_some _ (I1.bk b u e)
  have nolim : (s1.heap.push io).NoLimit := I1.nolimit.push io
  have szp : (s1.heap.push io).objs.size = s1.heap.objs.size + 1 := Heap.size_push ..
  refine ⟨nolim, ?_⟩
  -- what is owed once the code object is there: h3, its table ps3
  have owed : ∀ (code : Value) (h3 : Heap) (tk : Nat) (ps3 : Array Value), Heap.ExtBut P (s1.heap.push io) h3 → (s1.heap.push io).objs.size ≤ h3.objs.size → h3.get? P = some { cls := .none, data := .fields ps3 } → (∀ (s' : Shared), (∀ b u, b ≠ P → s1.heap.get? b = some u → s'.heap.get? b = some u) → s'.heap.get? P = some { cls := .none, data := .fields ps3 } → (∀ b u, s1.heap.objs.size < b → b < h3.objs.size → h3.get? b = some u → s'.heap.get? b = some u) → AllBare s'.gens → s'.os = s1.os → ∃ H2, Lb.Same H1 H2 ∧ Inv X pins σ H2 s') →
      wpAny (model X.prog X.w) X.A (builtinsFor X.env.globals X.env.builtins) (fun bi s₄ =>
        ∃ Ia fp wr n₀ Pf St₀ pz F, Value.ref s1.heap.objs.size = .ref Ia ∧ (∀ A' : Around, A'.handled = none → Walks X.prog X.w A' Ia fp wr n₀ Pf St₀) ∧ St₀ 0 s₄.heap ∧ (∀ b ∈ fp, b < s₄.heap.objs.size) ∧ s₄.heap.NoLimit ∧ cStatics ∉ wr ∧
          (∀ href : Heap, (∀ b o, s₄.heap.get? b = some o → href.get? b = some o) →
            QuietGen X.prog X.w (genEnv scope (cloFrom X.env.cells scope.names []) s₄.heap.objs.size code bi X.env) x [] elt (List.range s₄.heap.objs.size) wr Pf pz F href) ∧
          (∀ ga h₅ tk gs, gs.bare = true → s₄.heap.objs.size < ga → h₅.objs.size = ga + 1 → (∀ b o, s₄.heap.get? b = some o → h₅.get? b = some o) →
            WalksS X.prog X.w X.A.in4 ga (ga :: s₄.heap.objs.size :: List.range s₄.heap.objs.size) (s₄.heap.objs.size :: wr) (GenOnlyQ s₄.gens.size) (passing pz n₀ 0).length
              (fun j y => ∃ i, (passing pz n₀ 0)[j]? = some i ∧ F i y) (GenAt X.prog X.w X.A.in4 ga s₄.gens.size s₄.heap.objs.size (List.range s₄.heap.objs.size) wr pz n₀ F) →
            GenAt X.prog X.w X.A.in4 ga s₄.gens.size s₄.heap.objs.size (List.range s₄.heap.objs.size) wr pz n₀ F 0 { s₄ with gens := s₄.gens.push gs, toks := tk, heap := h₅ } →
            Q' (.ref ga) { s₄ with gens := s₄.gens.push gs, toks := tk, heap := h₅ })) X.xe { s1 with heap := h3, toks := tk } := by
    intro code h3 tk ps3 ext3 sz3 at3 fin
    obtain ⟨bm, ob, b1, b2, b3, b4, b5, b6, b7, b8⟩ := TB.bm
    have stat : cStatics < s1.heap.objs.size ∧ cStatics ≠ P := by
      obtain ⟨_, hns, _⟩ := I1.nolimit
      refine ⟨hns.lt, fun e => ?_⟩
      obtain ⟨o', es, ep, ho, hdt, _⟩ := hns
      rw [e, oldP] at ho
      cases ho
      cases hdt
    have kept : ∀ b u, b ≠ P → s1.heap.get? b = some u → h3.get? b = some u := fun b u hb e => ext3 b u hb (Heap.get?_push_of_some _ e)
    have glob3 : h3.Ns X.env.globals X.mg := by
      rw [I1.ok.glob]
      exact ((I1.mod.glob.keeps I1.bk).push io).extBut ext3 TB.gP
    refine wpAny_builtinsFor (m := X.mg) glob3 b1 b2 (kept _ _ b4 (I1.bk _ _ b5)) b6 b7 b8 ?_
    have itlt : s1.heap.objs.size < h3.objs.size := by omega
    refine ⟨s1.heap.objs.size, [s1.heap.objs.size], [s1.heap.objs.size], a.cps.size, SignAt a, St, (fun _ => true), Ans pb a, rfl, W, ?_, fun b hb => ?_, nolim.extBut ext3 stat.2, fun z => ?_, fun href hold => ?_, ?_⟩
    · refine (W X.A hr.hd).frame _ _ _ st0 fun b hb u e => ext3 b u (fun z => ?_) e
      have eb := List.mem_singleton.mp hb
      exact Nat.ne_of_lt ltP (z.symm.trans eb)
    · rw [List.mem_singleton.mp hb]
      exact itlt
    · exact Nat.ne_of_lt stat.1 (List.mem_singleton.mp z)
    · constructor
      · intro A' E' i v r m hA hv hn hm hk
        rw [List.forIn_nil]
        exact wpAny_pure ⟨rfl, keeps_refl _⟩
      · intro A' E' i v r m hA hv hp hn hm hk
        obtain ⟨cc, u, hcc, rfl⟩ := hv
        refine wpAny_mono (E1 _ A' E' cc u r m rfl rfl rfl hA hn hm fun b u hb e => ?_) (fun y r' q => ⟨⟨cc, hcc, q.1⟩, q.2⟩) fun _ _ e => e
        have lb : b < s1.heap.objs.size := Heap.lt_size e
        exact hk b (List.mem_range.mpr (Nat.lt_trans lb itlt)) (fun z => Nat.ne_of_lt lb (List.mem_singleton.mp z)) u (hold b u (kept b u hb e))
    · intro g h5 tk5 gs bare5 lt5 sz5 keep5 W5 at5
      simp only [List.length_range, GxR.passing_true] at W5
      refine hQ a pb H1 g _ rr ⟨_, _, _, _, _, W5.in4_1, at5, ans_truth rfl, fun s' mv => ?_⟩
      have outside : ∀ b u, s1.heap.get? b = some u → b ∉ h3.objs.size :: [s1.heap.objs.size] := fun b u e hb => by
        have lb : b < s1.heap.objs.size := Heap.lt_size e
        rw [List.mem_cons, List.mem_singleton] at hb
        rcases hb with z | z
        · rw [z] at lb
          exact Nat.lt_irrefl _ (Nat.lt_trans itlt lb)
        · rw [z] at lb
          exact Nat.lt_irrefl _ lb
      exact fin s' (fun b u hb e => mv.heap b u (outside b u e) (keep5 b u (kept b u hb e))) (mv.heap P _ (outside P _ oldP) (keep5 P _ at3)) (fun b u l1 l2 e => mv.heap b u (fun hb => by
        rw [List.mem_cons, List.mem_singleton] at hb
        rcases hb with z | z
        · rw [z] at l2
          exact Nat.lt_irrefl _ l2
        · rw [z] at l1
          exact Nat.lt_irrefl _ l1) (keep5 b u e)) (AllBare.movedS (I1.bare.push bare5) mv) mv.os
  -- the table as it was
  have asIs : ∀ s' : Shared, (∀ b u, b ≠ P → s1.heap.get? b = some u → s'.heap.get? b = some u) → s'.heap.get? P = some { cls := .none, data := .fields ps } → AllBare s'.gens → s'.os = s1.os → ∃ H2, Lb.Same H1 H2 ∧ Inv X pins σ H2 s' := fun s' k1 k2 k3 k4 => by
    have J := inv_tab (more := #[]) (h' := s'.heap) (g' := s'.gens) (d' := s'.drawn) (t' := s'.toks) I1 tabP k1 (by rw [Array.append_empty]; exact k2) k3
    rw [sh_eta s1 s' k4, Array.append_empty] at J
    have e : upd H1 P (.tbl ps) = H1 := by
      funext b
      by_cases z : b = P
      · rw [z, upd_same]
        exact tabP.symm
      · exact upd_ne z
    rw [e] at J
    exact ⟨H1, .refl H1, J⟩
  cases hit : codeAmong gpos ps.toList with
  | some cv => exact wpAny_genexprCode_hit hcode (codeH.code nowP tri) hit (owed cv _ s1.toks ps (Heap.ExtBut.refl _ _) (Nat.le_refl _) nowP fun s' k1 k2 _ k3 k4 => asIs s' k1 k2 k3 k4)
  | none =>
    refine wpAny_genexprCodeX hcode (codeH.code nowP tri) (codeH.tab nowP) hit fun c' h' tk hx hge hlt hco' hrec htab' _ => ?_
    obtain ⟨c2, oc, vs, t, e2, hoc, hdc, hvc⟩ := hrec
    cases e2
    refine owed _ h' tk _ hx (Nat.le_trans hge (Nat.le_of_lt hlt)) htab'.2 fun s' k1 k2 k5 k3 k4 => ?_
    have hge0 : (s1.heap.push io).objs.size ≤ c' := hge
    rw [szp] at hge0
    have hge1 : s1.heap.objs.size < c' := hge0
    have nC : H1 c' = none := I1.hok.fresh (Nat.le_of_lt hge1)
    have J0 := LamX.inv_table (q := X.env.qual ++ "<genexpr>") (h' := s'.heap) (t' := s'.toks) I1 tabP k1 k2 (Nat.le_of_lt hge1) ⟨oc, vs, t, k5 _ _ hge1 hlt hoc, hdc, hvc⟩
    have atP : upd (upd H1 P (.tbl (ps ++ #[rawInt gpos.line, rawInt gpos.col, .ref c']))) c' (LamX.CodeO c' (X.env.qual ++ "<genexpr>")) P = some (.tbl (ps ++ #[rawInt gpos.line, rawInt gpos.col, .ref c'])) := by
      rw [upd_ne (ne_of_none tabP nC), upd_same]
    have J := inv_tab (more := #[]) (h' := s'.heap) (g' := s'.gens) (d' := s'.drawn) (t' := s'.toks) J0 atP (fun b u _ e => e) (by rw [Array.append_empty]; exact k2) k3
    have es : ({ s1 with heap := s'.heap, gens := s'.gens, drawn := s'.drawn, toks := s'.toks } : Shared) = s' := sh_eta s1 s' k4
    have J : Inv X pins σ _ ({ s1 with heap := s'.heap, gens := s'.gens, drawn := s'.drawn, toks := s'.toks } : Shared) := J
    rw [es, Array.append_empty] at J
    have eP : ∀ (G : Hp) (o : HO), G P = some o → upd G P o = G := fun G o hG => by
      funext b
      by_cases z : b = P
      · rw [z, upd_same]
        exact hG.symm
      · exact upd_ne z
    rw [eP _ _ atP] at J
    refine ⟨_, Lb.same_code tabP tri bears nC hmem, J⟩
/-- behind it the def's table may have grown -/
def tAll (Cn : L2.St → Hp → (Nat → Bool) → Prop) (te : TE) : TE := fun σ H Q => te σ H fun v H1 => ∃ (a : Str) (pb : Nat → Bool), v = .str a ∧ Good H1 ∧ Cn σ H1 pb ∧ ∀ H2, Lb.Same H1 H2 → Q (.bl (a.cps.toList.all pb)) H2
theorem pe_all {c P : Addr} {elt iter : Expr} {x : Str} {px p pos gpos : Pos} {scope : Scope} {Cn : L2.St → Hp → (Nat → Bool) → Prop} {te : TE} {k : Nat}
    (hr : Room k X.A) (hg : Gl X "all") (hm : X.mg "all" = none) (TB : LamX.TabB X.base X.mg c P) (hmem : (P, X.env.qual ++ "<genexpr>") ∈ Tabl.T) (hcode : X.env.code = .ref c) (S : GenS X.env scope x) (hi : PE X iter te)
    (hel : ∀ (pins : List (Addr × Obj)) (σ : L2.St) (H1 : Hp) (s1 : Shared) (pb : Nat → Bool), Inv X pins σ H1 s1 → Good H1 → Cn σ H1 pb → Elt X P s1.heap scope x elt pb) (hs : ∀ v, genFold iter X.env v = pure v := by intro _; rfl)
    (hb : bootBuiltins "all" = some (.builtin "all") := by decide +kernel)
    (he : starEach [.GeneratorExp elt [⟨.Name x px, iter, [], 0⟩] scope gpos] X.env = (false, eval (.GeneratorExp elt [⟨.Name x px, iter, [], 0⟩] scope gpos) X.env) :: starEach [] X.env := by rfl) :
    PE X (.Call (.Name "all" p) [.GeneratorExp elt [⟨.Name x px, iter, [], 0⟩] scope gpos] [] pos) (tAll Cn te) := by
  refine ⟨fun pins s σ H Q I h => wpAny_Call_Name_kw (ld_blt I hg hm hb (PyProof.Rows.callWith_builtin1 ?_ he (by rfl)))⟩
  rw [he]
  refine Calls.spliced_cons (gen_txt (R := fun a pb H1 => ∀ H2, Lb.Same H1 H2 → Q (.bl (a.cps.toList.all pb)) H2) hr TB hmem hcode S hi (hel pins) hs I h fun a pb H1 g s5 hR ready => ?_)
  obtain ⟨fp, wr, G, F, St, W, st0, tr, fin⟩ := ready
  refine Calls.spliced_nil (call_all_walkS (W.self 0 _ _ _ st0 ⟨g, fp, wr, G, _, F, St, _, rfl, W, st0, tr, fun s' mv => ?_⟩))
  obtain ⟨H2, hT, J⟩ := fin s' mv
  refine ⟨.bl _, H2, J, rfl, ?_⟩
  rw [all_signs a pb]
  exact hR H2 hT
/-- x in y, y a text that a name of the def holds -/
def CnVar (i : Nat) : L2.St → Hp → (Nat → Bool) → Prop := fun σ _ pb => ∃ z : Str, σ[i]? = some (some (.str z)) ∧ pb = fun c => decide (c ∈ z.cps.toList)
/-- x in y, y a text of the module -/
def CnGl (z : Str) : L2.St → Hp → (Nat → Bool) → Prop := fun _ _ pb => pb = fun c => decide (c ∈ z.cps.toList)
theorem elt_var {P : Addr} {scope : Scope} {x y : Str} {i : Nat} {p1 p2 p3 : Pos} {pb : Nat → Bool} (S : GenS X.env scope x) (hy : scope.names.lookup y = some .free) (hm : (y, NameKind.free) ∈ scope.names) (hN : X.N[i]? = some y) (hv : X.env.scope.names.lookup y = some .cell)
    (I : Inv X pins σ H s) (tb : TabG H P) (cn : CnVar i σ H pb) (hd : (x == ("__debug__" : Str)) = false := by decide) (hd' : (y == ("__debug__" : Str)) = false := by decide) (hcd : (y == ("__classdict__" : Str)) = false := by decide) :
    Elt X P s.heap scope x (.Compare (.Name x p1) [.In] [.Name y p2] p3) pb := by
  obtain ⟨z, hz, rfl⟩ := cn
  obtain ⟨m0, hn0, look⟩ := I.loc
  obtain ⟨u, ru, lk⟩ := look i y _ hN hz (.inr (.inl hv))
  obtain ⟨tz, rfl⟩ := ru
  have cellAt : ∃ c0, X.env.cells.lookup y = some c0 ∧ s.heap.IsCell c0 (some (.str z tz)) := by
    rcases lk with ⟨hk, _⟩ | ⟨_, r⟩
    · have hk' : X.env.scope.names.lookup y = some .local := hk
      rw [hv] at hk'
      cases hk'
    · exact r
  obtain ⟨c0, hc0, o0, ho0, hd0⟩ := cellAt
  intro env A' E' c t r m hs hcl hg hA hn hx keep
  have kd : env.scope.kind = .function := by rw [hs]; exact S.kind
  have notP : c0 ≠ P := fun e => by
    obtain ⟨ps, hP, _⟩ := tb
    have hP' : s.heap.get? P = some { cls := .none, data := .fields ps } := I.hok P _ hP
    rw [e, hP'] at ho0
    cases ho0
    cases hd0
  have lx : env.kindOf x = some .local := by show env.scope.names.lookup x = _; rw [hs]; exact S.loc
  have ly : env.kindOf y = some .free := by show env.scope.names.lookup y = _; rw [hs]; exact hy
  have clo : env.cells.lookup y = some c0 := by rw [hcl]; exact NdefX.clo_has S.free hm hc0
  refine wpAny_Compare1 (wpAny_Name (wpAny_loadName_local kd lx hn hx ?_) hd)
  refine wpAny_Name (wpAny_loadName_free kd ly clo ⟨o0, keep c0 o0 notP ho0, hd0⟩ ?_ hcd) hd'
  exact PyProof.Rows.in_str ⟨congrArg Value.bool (PySem.StrLaws.found_one z c), keeps_refl r⟩
theorem elt_glob {P : Addr} {scope : Scope} {x y : Str} {z : Str} {tz : Tok} {p1 p2 p3 : Pos} {pb : Nat → Bool} (S : GenS X.env scope x) (hy : scope.names.lookup y = some .globalImplicit) (hm : X.mg y = some (.str z tz)) (gP : mainGlobals ≠ P)
    (I : Inv X pins σ H s) (cn : CnGl z σ H pb) (hd : (x == ("__debug__" : Str)) = false := by decide) (hd' : (y == ("__debug__" : Str)) = false := by decide) :
    Elt X P s.heap scope x (.Compare (.Name x p1) [.In] [.Name y p2] p3) pb := by
  cases cn
  intro env A' E' c t r m hs hcl hg hA hn hx keep
  have kd : env.scope.kind = .function := by rw [hs]; exact S.kind
  have lx : env.kindOf x = some .local := by show env.scope.names.lookup x = _; rw [hs]; exact S.loc
  have ly : env.kindOf y = some .globalImplicit := by show env.scope.names.lookup y = _; rw [hs]; exact hy
  have gl : r.heap.Ns env.globals X.mg := by
    rw [hg, I.ok.glob]
    exact (I.mod.glob.keeps I.bk).at fun o e => keep _ o gP e
  refine wpAny_Compare1 (wpAny_Name (wpAny_loadName_local kd lx hn hx ?_) hd)
  refine Calls.Name_function_global kd ly (Calls.loadGlobal_global gl hm ?_) hd'
  exact PyProof.Rows.in_str ⟨congrArg Value.bool (PySem.StrLaws.found_one z c), keeps_refl r⟩
/-! ### the generator's names, told by the scopes alone -/
structure GenB (sc scope : Scope) (x : Str) : Prop where
  kind : scope.kind = .function
  co : scope.isCoroutine = false
  cell : ∀ y ∈ scope.names, y.2 ≠ .cell
  dot : scope.names.lookup (".0" : Str) = some NameKind.local
  loc : scope.names.lookup x = some .local
  free : ∀ y ∈ scope.names, y.2 = .free → sc.names.lookup y.1 = some .cell ∨ sc.names.lookup y.1 = some .free
def genBB (sc scope : Scope) (x : Str) : Bool :=
  decide (scope.kind = .function) && !scope.isCoroutine && decide (scope.names.lookup (".0" : Str) = some NameKind.local) && decide (scope.names.lookup x = some .local) && scope.names.all fun y => !decide (y.2 = .cell) && (!decide (y.2 = .free) || decide (sc.names.lookup y.1 = some .cell) || decide (sc.names.lookup y.1 = some .free))
theorem genB_by {sc scope : Scope} {x : Str} (h : genBB sc scope x = true) : GenB sc scope x := by
  unfold genBB at h
  simp only [Bool.and_eq_true, Bool.or_eq_true, Bool.not_eq_true', decide_eq_true_eq, decide_eq_false_iff_not, List.all_eq_true] at h
  obtain ⟨⟨⟨⟨a1, a2⟩, a3⟩, a4⟩, a5⟩ := h
  refine ⟨a1, a2, fun y m => (a5 y m).1, a3, a4, fun y m e => ?_⟩
  rcases (a5 y m).2 with (z | z) | z
  · exact absurd e z
  · exact .inl z
  · exact .inr z
theorem GenB.S {scope : Scope} {x : Str} (B : GenB X.env.scope scope x) (ok : X.Ok) : GenS X.env scope x := ⟨B.kind, B.co, B.cell, B.dot, B.loc, fun y m e => ok.has _ (B.free y m e)⟩
theorem pe_weak {e : Expr} {te : TE} (h : PE X e te) : PE X e (fun σ H Q => ∃ R : VK, te σ H R ∧ ∀ v H1, R v H1 → Q v H1) :=
  ⟨fun pins s σ H Q I ⟨R, a, b⟩ => wpAny_mono (h.run pins s σ H R I a) (fun u s1 ⟨v, H1, I1, r, q⟩ => ⟨v, H1, I1, r, b v H1 q⟩) fun _ _ z => z⟩
/-- all(x in y for x in e), y a text of the module -/
def tAllG (z : Str) (te : TE) : TE := fun σ H Q => te σ H fun v H1 => ∃ a : Str, v = .str a ∧ Good H1 ∧ ∀ H2, Lb.Same H1 H2 → Q (.bl (a.cps.toList.all fun c => decide (c ∈ z.cps.toList))) H2
/-- all(x in y for x in e), y a text in the i-th slot -/
def tAllV (i : Nat) (te : TE) : TE := fun σ H Q => te σ H fun v H1 => ∃ a z : Str, v = .str a ∧ σ[i]? = some (some (.str z)) ∧ Good H1 ∧ ∀ H2, Lb.Same H1 H2 → Q (.bl (a.cps.toList.all fun c => decide (c ∈ z.cps.toList))) H2
theorem pe_allG {c P : Addr} {iter : Expr} {x y : Str} {px p pos gpos p1 p2 p3 : Pos} {scope : Scope} {te : TE} {k : Nat} {z : Str} {tz : Tok}
    (hr : Room k X.A) (hm : X.mg "all" = none) (hmy : X.mg y = some (.str z tz)) (TB : LamX.TabB X.base X.mg c P) (hmem : (P, X.env.qual ++ "<genexpr>") ∈ Tabl.T) (hcode : X.env.code = .ref c) (B : GenB X.env.scope scope x) (hi : PE X iter te)
    (hg : Gl X "all" := by rfl) (hy : scope.names.lookup y = some .globalImplicit := by rfl) (hs : ∀ v, genFold iter X.env v = pure v := by intro _; rfl) (hd : (x == ("__debug__" : Str)) = false := by decide) (hd' : (y == ("__debug__" : Str)) = false := by decide)
    (he : starEach [.GeneratorExp (.Compare (.Name x p1) [.In] [.Name y p2] p3) [⟨.Name x px, iter, [], 0⟩] scope gpos] X.env = (false, eval (.GeneratorExp (.Compare (.Name x p1) [.In] [.Name y p2] p3) [⟨.Name x px, iter, [], 0⟩] scope gpos) X.env) :: starEach [] X.env := by rfl) :
    PE X (.Call (.Name "all" p) [.GeneratorExp (.Compare (.Name x p1) [.In] [.Name y p2] p3) [⟨.Name x px, iter, [], 0⟩] scope gpos] [] pos) (tAllG z te) := by
  refine ⟨fun pins s σ H Q I h => ?_⟩
  have S := B.S I.ok
  refine (pe_all (Cn := CnGl z) hr hg hm TB hmem hcode S (pe_weak hi) (fun pins σ H1 s1 pb I1 _ cn => elt_glob S hy hmy TB.gP I1 cn hd hd') hs (he := he)).run pins s σ H Q I ⟨_, h, fun v H1 q => ?_⟩
  obtain ⟨a, e1, e2, e3⟩ := q
  exact ⟨a, _, e1, e2, rfl, e3⟩
theorem pe_allV {c P : Addr} {iter : Expr} {x y : Str} {i : Nat} {px p pos gpos p1 p2 p3 : Pos} {scope : Scope} {te : TE} {k : Nat}
    (hr : Room k X.A) (hm : X.mg "all" = none) (hN : X.N[i]? = some y) (TB : LamX.TabB X.base X.mg c P) (hmem : (P, X.env.qual ++ "<genexpr>") ∈ Tabl.T) (hcode : X.env.code = .ref c) (B : GenB X.env.scope scope x) (hi : PE X iter te)
    (hv : X.env.scope.names.lookup y = some .cell := by rfl) (hg : Gl X "all" := by rfl) (hy : scope.names.lookup y = some .free := by rfl) (hmm : (y, NameKind.free) ∈ scope.names := by exact PySem.mem_of_lookup rfl) (hs : ∀ v, genFold iter X.env v = pure v := by intro _; rfl) (hd : (x == ("__debug__" : Str)) = false := by decide) (hd' : (y == ("__debug__" : Str)) = false := by decide) (hcd : (y == ("__classdict__" : Str)) = false := by decide)
    (he : starEach [.GeneratorExp (.Compare (.Name x p1) [.In] [.Name y p2] p3) [⟨.Name x px, iter, [], 0⟩] scope gpos] X.env = (false, eval (.GeneratorExp (.Compare (.Name x p1) [.In] [.Name y p2] p3) [⟨.Name x px, iter, [], 0⟩] scope gpos) X.env) :: starEach [] X.env := by rfl) :
    PE X (.Call (.Name "all" p) [.GeneratorExp (.Compare (.Name x p1) [.In] [.Name y p2] p3) [⟨.Name x px, iter, [], 0⟩] scope gpos] [] pos) (tAllV i te) := by
  refine ⟨fun pins s σ H Q I h => ?_⟩
  have S := B.S I.ok
  refine (pe_all (Cn := CnVar i) hr hg hm TB hmem hcode S (pe_weak hi) (fun pins σ H1 s1 pb I1 g cn => elt_var S hy hmm hN hv I1 (let ⟨ps, h1, h2, _⟩ := g _ hmem; ⟨ps, h1, h2⟩) cn hd hd' hcd) hs (he := he)).run pins s σ H Q I ⟨_, h, fun v H1 q => ?_⟩
  obtain ⟨a, z, e1, e0, e2, e3⟩ := q
  exact ⟨a, _, e1, e2, ⟨z, e0, rfl⟩, e3⟩
end
end GQ

namespace Lb
open PySem PySem.Spec PyProof.Rows L2
/-! ### the text's own errors -/
/-- a class of errors -/
structure ErrT (K : PySem.W.Frag) (mg : Str → Option Value) (x : Str) (C : Addr) : Prop where
  g : mg x = some (.ref C)
  o : OexC K C
  f : XfC K C
  i : ExcC K C
/-! what class is one of what class: from the classes' own rows -/
theorem cls_bit {K : PySem.W.Frag} {C : Addr} (h1 : PySem.W.isClsIn K C = true) (h2 : PySem.W.typeIn K (.ref C) = some (.type "type")) : ((PySem.W.clsIn K C).isSome && PySem.W.typeIn K (.ref C) == some (.type "type")) = true := by
  have h1' : (PySem.W.clsIn K C).isSome = true := h1
  rw [h1', h2] <;> rfl
theorem kitC {K : PySem.W.Frag} {t : Value} {C : Addr} {b : Bool} (h1 : PySem.W.isClsIn K C = true) (h2 : PySem.W.typeIn K (.ref C) = some (.type "type")) (h3 : PySem.W.subIn K t (.ref C) = some b) : PySem.W.kitCls K t (.ref C) = some b := by
  show (if ((PySem.W.clsIn K C).isSome && PySem.W.typeIn K (.ref C) == some (.type "type")) = true then PySem.W.subIn K t (.ref C) else none) = some b
  rw [if_pos (cls_bit h1 h2)]
  exact h3
theorem kitY {K : PySem.W.Frag} {t : Value} {C : Addr} (h1 : PySem.W.isClsIn K C = true) (h2 : PySem.W.typeIn K (.ref C) = some (.type "type")) (h3 : PySem.W.subIn K t (.ref C) = some true) : PySem.W.kitOne K t (.ref C) = some true := by
  unfold PySem.W.kitOne
  split
  · rfl
  · exact kitC h1 h2 h3
theorem kitN {K : PySem.W.Frag} {D C : Addr} (h1 : PySem.W.isClsIn K C = true) (h2 : PySem.W.typeIn K (.ref C) = some (.type "type")) (h3 : PySem.W.subIn K (.ref D) (.ref C) = some false) (h4 : PySem.W.subIn K (.ref C) (.ref C) = some true) :
    PySem.W.kitOne K (.ref D) (.ref C) = some false := by
  unfold PySem.W.kitOne
  split
  · rename_i e
    have e' := beq_iff_eq.mp e
    rw [e', h4] at h3
    cases h3
  · exact kitC h1 h2 h3
theorem kitB {K : PySem.W.Frag} {D : Addr} {T : String} {b : Bool} (hm : PySem.W.kitMeta T = true) (h : PySem.W.subIn K (.ref D) (.type T) = some b) : PySem.W.kitOne K (.ref D) (.type T) = some b := by
  unfold PySem.W.kitOne
  split
  · rename_i e
    cases beq_iff_eq.mp e
  · show (if PySem.W.kitMeta T = true then PySem.W.subIn K (.ref D) (.type T) else none) = some b
    rw [if_pos hm]
    exact h
theorem exmR {K : PySem.W.Frag} {D C : Addr} {b : Bool} (h0 : PySem.W.subIn K (.ref C) (.type "BaseException") = some true) (h1 : PySem.W.isClsIn K C = true) (h2 : PySem.W.typeIn K (.ref C) = some (.type "type")) (h3 : PySem.W.subIn K (.ref D) (.ref C) = some b) :
    PySem.W.exmOne K (.ref D) (.ref C) = some b := by
  have e1 : (PySem.W.subIn K (.ref C) (.type "BaseException") == some true) = true := by rw [h0] <;> rfl
  show (if (PySem.W.subIn K (.ref C) (.type "BaseException") == some true) = true then PySem.W.kitCls K (.ref D) (.ref C) else none) = some b
  rw [if_pos e1]
  exact kitC h1 h2 h3
/-- the j-th row of a class -/
def inCls (s : Stmt) (j : Nat) : Stmt := match s with
  | .ClassDef _ _ _ b _ _ _ _ _ _ _ => b.getD j (.Pass ⟨0, 0, 0, 0⟩)
  | _ => .Pass ⟨0, 0, 0, 0⟩
/-- isinstance(e, c), e the error that the suite holds, whatever its class -/
def rIsD (K : PySem.W.Frag) (a : Addr) (cls : Value) (d : Option Addr) : List V → Hp → VK → Prop := fun xs H Q =>
  ∃ (D : Addr) (c : V) (cv : Value) (b : Bool), cls = .ref D ∧ ExcC K D ∧ xs = [.ref a, c] ∧ (∀ u, RelV c u → u = cv) ∧ (∀ dd, d = some dd → ∃ fs, H dd = some (.xd fs)) ∧ PySem.W.kitOne K (.ref D) cv = some b ∧ Q (.bl b) H
theorem call_isD {X : Cx} {a : Addr} {cls : Value} {d : Option Addr} {oe : Obj} {pn : List (Addr × Obj)} (hz : Zc cls d oe) (hf : ∃ vs, oe.data = .fields vs) : CallR (X.suite a ((a, oe) :: pn)) (.builtin "isinstance") (rIsD X.K a cls d) := by
  intro pins s σ H xs us Q I r h
  obtain ⟨D, c, cv, b, rfl, C, rfl, same, dict, e, q⟩ := h
  obtain ⟨u1, u2, rfl, r1, r2⟩ := vals2 r
  cases r1
  cases same _ r2
  obtain ⟨at_, _⟩ := I.pin (a, oe) (List.mem_append_left _ List.mem_cons_self)
  obtain ⟨vs, data⟩ := hf
  obtain ⟨od, J⟩ : ∃ od, PySem.W.InstAt s.heap a oe D od := by
    have no : PySem.W.notCls oe = true := by
      unfold PySem.W.notCls
      rw [data] <;> rfl
    cases d with
    | none => exact ⟨none, at_, hz.1, no, by rw [hz.2]; trivial⟩
    | some dd =>
      obtain ⟨fs, hd⟩ := dict dd rfl
      obtain ⟨mA, ns, _⟩ := (show ObjOk X.prog X.w H s.heap dd (.xd fs) from I.hok dd _ hd)
      obtain ⟨od, ho, _⟩ := lookIn_ns ns
      exact ⟨some od, at_, hz.1, no, by rw [hz.2]; exact ho⟩
  have some_ : (PySem.W.clsIn X.K D).isSome = true := by
    obtain ⟨cd, hc, _⟩ := PySem.W.any_some C.hd
    rw [hc]
    rfl
  exact PySem.W.kia_one (PySem.W.kitx_exc some_ C.hg C.hk C.hs C.ha C.hn C.ht C.hm) I.kIn J e (fun z => nomatch z) fun tk => ⟨.bl b, H, I.kept (t' := tk) fun _ _ z => z, rfl, q⟩
/-! ### a class with an own __init__(self, f): self.f = f -/
def sp_init1 (K : PySem.W.Frag) (f : Str) : Sp := fun vs H Q _ => ∃ (a C : Addr) (v : V), vs = [.ref a, v] ∧ OexC K C ∧ PySem.W.findIn K (.ref C) f = some none ∧ H a = some (exo a C none) ∧
  ∀ dx, H dx = none → dx ≠ a → Q .non (upd (upd H dx (exd dx [(f, v)])) a (exo a C (some dx)))
theorem pa_weak {X : Cx} {es : List Expr} {t : TA} (h : PA X es t) : PA X es (fun σ H Q => ∃ R : List V → Hp → Prop, t σ H R ∧ ∀ vs H1, R vs H1 → Q vs H1) :=
  ⟨fun pos pins s σ H Q I ⟨R, a, b⟩ => wpAny_mono (h.run pos pins s σ H R I a) (fun u s1 ⟨v, H1, I1, r, q⟩ => ⟨v, H1, I1, r, b v H1 q⟩) fun _ _ z => z⟩
/-- C(e): a new error, its field f -/
def tErr1 (C : Addr) (f : Str) (ta : TA) : L2.St → Hp → XK → Prop := fun σ H Q => ta σ H fun vs H1 => ∃ v, vs = [v] ∧ ∀ d, H1 d = none → Q (.ref C) (some d) (upd H1 d (.xd [(f, v)]))
theorem pmk_err1 {X : Cx} {CX : CXT} {e : Expr} {ta : TA} {x f : Str} {C fI : Addr} {k : Nat} {fd : FuncData} {ps : List Str} {p pos : Pos} (E : ErrT X.K X.mg x C) (iC : PySem.W.findIn X.K (.ref C) "__init__" = some (some (.ref fI))) (tI : PySem.W.typeIn X.K (.ref fI) = some (.type "function"))
    (hno : PySem.W.findIn X.K (.ref C) f = some none) (F1 : FnOk X.prog X.w X.K X.mg X.base CX k fI fd ps (sp_init1 X.K f)) (hr : Room (k + 1) X.A) (hb : Binds X.K fd ps []) (hx : Passes CX X (fun _ _ _ => False)) (ha : PA X [e] ta) (hg : Gl X x := by rfl)
    (hdb : (x == ("__debug__" : Str)) = false := by decide) (he : starEach [e] X.env = (false, eval e X.env) :: starEach [] X.env := by rfl) (hpl : (backTo pos (starEach [] X.env)).any (·.1) = false := by rfl) :
    PMk X (.Call (.Name x p) [e] [] pos) (tErr1 C f ta) := by
  intro pins s σ H Q I h
  refine pmk_oex (dvs := []) E.o iC tI F1 hr hb .nil hx hg E.g (pa_weak ha) hdb he hpl pins s σ H Q I ⟨_, h, fun vs H1 z => ?_⟩
  obtain ⟨v, rfl, q⟩ := z
  refine ⟨by show 1 ≤ 1000; decide, fun a na => ⟨a, C, v, rfl, E.o, hno, upd_same, fun dx nd ne => ?_⟩⟩
  have nd1 : H1 dx = none := by
    rw [upd_ne ne] at nd
    exact nd
  refine ⟨rfl, dx, [(f, v)], upd_same, by rw [upd_ne ne, upd_same], nd1, ?_⟩
  have e : upd (del (upd (upd (upd H1 a (exo a C none)) dx (exd dx [(f, v)])) a (exo a C (some dx))) a) dx (.xd [(f, v)]) = upd H1 dx (.xd [(f, v)]) := by
    funext b
    by_cases b1 : b = dx
    · rw [b1, upd_same, upd_same]
    · rw [upd_ne b1, upd_ne b1]
      by_cases b2 : b = a
      · rw [b2, del_same, na]
      · rw [del_ne b2, upd_ne b2, upd_ne b1, upd_ne b2]
  rw [e]
  exact q dx nd1
/-- __init__(self, f): self.f = f -/
theorem ok_init1 {P : Program} {w : World} {K : PySem.W.Frag} {mg : Str → Option Value} {base : Heap} {x qual f : Str} {st : Stmt} {fI : Addr} {fd : FuncData} {p0 p1 p2 p3 p4 : Pos} {k : Nat} (F : Fun K x qual st fI fd) (S : FnScope ["self", f] ["self", f] (defScope st)) (hf : f ≠ "self")
    (body : defBody st = [.Assign [.Attribute (.Name "self" p0) f p1] (.Name f p2) p3]) (v0 : Vis (defScope st) "self" := by exact Or.inl rfl) (v1 : Vis (defScope st) f := by exact Or.inl rfl) (d1 : (f == ("__debug__" : Str)) = false := by decide) (d2 : (f == ("__classdict__" : Str)) = false := by decide) :
    FnOk P w K mg base CX0 (k + 1) fI fd ["self", f] (sp_init1 K f) := by
  refine F.ok S (fun vs H Q E h => ?_) (fun cdv A outer s H vs Q E hr h => ?_)
  · obtain ⟨a, C, v, rfl, _⟩ := h
    rfl
  · obtain ⟨a, C, v, rfl, T, no, e, q⟩ := h
    rw [body]
    exact ⟨_, pss_one (ps_ost (pv 0 rfl v0) (pv 1 rfl v1 d1 d2)), v, rfl, .ref a, rfl, a, C, rfl, T, no, .inl ⟨e, fun dx n ne => q dx n ne⟩⟩
end Lb

namespace Lb
open PySem PySem.Spec PyProof.Rows L2
/-! ### a lambda made and handed to a def of the text -/
section
variable [Tabl] {X : Cx} {pins : List (Addr × Obj)} {σ : L2.St} {H : Hp} {s : Shared}
abbrev qLam (X : Cx) : Str := X.env.qual ++ "<lambda>"
abbrev lamO (X : Cx) (params : Arguments) (body : Expr) (scope : Scope) (pm : Value) (c : Addr) (ct : Value) : Obj := PySem.W.kla_obj "<lambda>" (qLam X) params body scope (cloFrom X.env.cells scope.names []) pm c ct
theorem lam_made {c P : Addr} {params : Arguments} {body : Expr} {scope : Scope} {pos : Pos} {E Q : Value → Shared → Prop} (I : Inv X pins σ H s) (TB : LamX.TabB X.base X.mg c P) (code : X.env.code = .ref c) (mem : (P, qLam X) ∈ Tabl.T) (good : Good H) (L : LamX.LamS X.env.scope scope) (plain : defaultsOf params X.env = ([], []))
    (h : ∀ (f c' : Addr) (pm ct : Value) (H1 : Hp) (s1 : Shared), Inv X pins σ H1 s1 → Same H H1 → s1.heap.get? f = some (lamO X params body scope pm c' ct) → H1 f = none → f ∉ frs X.stack → H1 c' = some (LamX.CodeO c' (qLam X)) → Q (.ref f) s1) :
    wpAny (model X.prog X.w) X.A (eval (.Lambda params body scope pos) X.env) Q E s := by
  obtain ⟨ps, tab, tri, bears⟩ := good _ mem
  have free := L.has I.ok
  have tab' : s.heap.get? P = some { cls := .none, data := .fields ps } := I.hok P _ tab
  have far : ∀ f, s.heap.objs.size ≤ f → f ∉ frs X.stack := fun f l m => by
    rcases List.mem_cons.mp (I.stkSub _ m) with e | e
    · have low := I.lt
      rw [← e] at low
      exact absurd (Nat.lt_of_lt_of_le low l) (Nat.lt_irrefl _)
    · exact I.nofs l e
  refine PySem.W.kla_eval plain ?_
  cases hit : codeAmong pos ps.toList with
  | some cv =>
    obtain ⟨c', rfl, is⟩ := bears pos cv hit
    refine PySem.W.kla_makeFunctionHit (mg := X.mg) (c := c) (P := P) (ps := ps) (closure_ok free) I.ok.glob (I.mod.glob.keeps I.bk) code (TB.code.keeps I.bk) tab' tri hit (TB.bm.keeps I.bk) fun ct h1 tk keep size => ?_
    exact h h1.objs.size c' _ ct H _ (I.kept fun b o e => Heap.get?_push_of_some _ (keep b o e)) (.refl H) (Heap.get?_push_size _ rfl) (I.hok.fresh size) (far _ size) is
  | none =>
    refine PySem.W.kla_makeFunction (mg := X.mg) (c := c) (P := P) (ps := ps) (closure_ok free) I.ok.glob (I.mod.glob.keeps I.bk) code (TB.code.keeps I.bk) tab' tri hit TB.gP (TB.bm.keeps I.bk) fun c' ct h1 tk keep above below rec_ grown => ?_
    obtain ⟨c2, oc, vs, t, ec, o1, o2, o3⟩ := rec_
    cases ec
    have new : H c' = none := I.hok.fresh above
    have size : s.heap.objs.size ≤ h1.objs.size := by omega
    refine h h1.objs.size c' _ ct _ _ (LamX.inv_table (t' := tk) I tab (fun b o n e => Heap.get?_push_of_some _ (keep b o n e)) (Heap.get?_push_of_some _ grown) above ⟨oc, vs, t, Heap.get?_push_of_some _ o1, o2, o3⟩) (same_code tab tri bears new mem) (Heap.get?_push_size _ rfl) ?_ (far _ size) upd_same
    have lp := Heap.lt_size tab'
    rw [upd_ne (Nat.ne_of_gt below), upd_ne (Nat.ne_of_gt (Nat.lt_of_lt_of_le lp size))]
    exact I.hok.fresh size
end
end Lb

namespace Lb
open PySem PySem.Spec PyProof.Rows L2
/-! ### a lambda called in a suite: what it lets out is told of the slots there -/
section
variable {X : Cx} {pins : List (Addr × Obj)} {σ : L2.St} {H : Hp} {s : Shared}
theorem pe_actS {CXg : CXT} {Eg : XK} {Ng : List Str} {qg : Str} {sg : Scope} {g f c : Addr} {cdg pm ct : Value} {params : Arguments} {body : Expr} {scope : Scope} {k i : Nat} {a : Str} {pn : List (Addr × Obj)} {xe : Value → Shared → Prop} {W : WX} {t : XK → TE} {p1 p2 : Pos} (I : Inv X pins σ H s) (L : LamX.LamS X.env.scope scope)
    (at_ : s.heap.get? f = some (lamO X params body scope pm c ct)) (nf : H f = none) (far : f ∉ frs X.stack) (none_ : bindArgs (PySem.W.kla_fn "<lambda>" (qLam X) params body scope (cloFrom X.env.cells scope.names []) pm (.ref c) ct) ⟨[], []⟩ = pure [])
    (tk : Takes ((cxOf CXg X.prog X.w X.K X.mg X.base Ng qg sg g cdg X.A X.stack s H Eg).tr pn xe) W) (room : Room (k + 1) (X.A.deeper (envOfC qg sg s.heap.objs.size g cdg))) (inside : ∀ (A : Around) (outer : List Env) (s : Shared) (H : Hp) (E : XK), Room k (A.deeper (LamX.lamEnv X scope s.heap.objs.size f c)) → PE (LamX.lamCx X A outer s H E scope f c) body (t E))
    (hN : Ng[i]? = some a) (hv : Vis sg a) (d1 : (a == ("__debug__" : Str)) = false := by decide) (d2 : (a == ("__classdict__" : Str)) = false := by decide) : PE ((cxOf CXg X.prog X.w X.K X.mg X.base Ng qg sg g cdg X.A X.stack s H Eg).tr pn xe) (.Call (.Name a p1) [] [] p2)
      (fun σZ HZ Q => ∃ E0 : XK, (∀ cls d H', E0 cls d H' → W cls d σZ H') ∧ σZ[i]? = some (some (.ref f)) ∧ HZ c = some (LamX.CodeO c (qLam X)) ∧ t E0 σ HZ Q) := by
  refine ⟨fun pinsZ sZ σZ HZ Q IZ ⟨E0, incl, slot, is, reads⟩ => wpAny_Call_Name_kw (thn ((pe_var (pos := p1) (i := i) hN hv d1 d2).run pinsZ sZ σZ HZ (fun v G => v = .ref f ∧ G = HZ) IZ ⟨.ref f, slot, rfl, rfl⟩) ?_)⟩
  rintro u s1 ⟨v, G, I1, rel, rfl, rfl⟩
  cases (show u = Value.ref f from rel)
  have un : Un (frs X.stack) [] H G s.heap s1.heap := I1.base
  have there : s1.heap.get? f = some (lamO X params body scope pm c ct) := un.keep f _ at_ nf far (fun m => absurd (show f ∈ ([] : List Addr) from m) List.not_mem_nil)
  obtain ⟨⟨oc, vs, tq, o1, o2, o3⟩, _, _⟩ := I1.hok c _ is
  refine PySem.W.callWith_F0 ⟨_, _, _, _, there⟩ (wpAny_call (codeAny_mono (R := CR (L2.CX X.prog X.w) (envOfC qg sg s.heap.objs.size g cdg :: X.stack) X.prog X.w G s1 Q E0) ?_ fun r s2 q => ?_))
  · refine PySem.W.kla_callFunE room.depth there rfl L.co L.gen rfl ⟨c, oc, vs, tq, rfl, o1, o2, o3⟩ ?_
    refine wpAny_of_eq none_ (wpAny_newFunctionEnv (fun y hy => (L.own y hy).2) (fun y hy => absurd hy List.not_mem_nil) (fun h1 ns sub => ⟨I1.nolimit.fresh _ sub, ?_⟩) L.kind)
    have keep : ∀ b o, s1.heap.get? b = some o → h1.get? b = some o := fun b o e => sub.extBut b o (Nat.ne_of_lt (Heap.lt_size e)) (Heap.get?_push_of_some _ e)
    have J := LamX.lam_start2 (A := X.A.deeper (envOfC qg sg s.heap.objs.size g cdg)) (outer := envOfC qg sg s.heap.objs.size g cdg :: X.stack) (E := E0) (f := f) (c' := c) (tk := s1.toks) I L I1.env0 room.hd un ns keep
    show codeAny _ _ (.expr body (LamX.lamEnv X scope s1.heap.objs.size f c)) _ _
    refine PySem.W.kla_codeExpr (wpAny_mono ((inside _ _ s1 G E0 (room.deeper _)).run [] _ _ G Q J reads) ?_ fun e s2 q => q)
    rintro u s2 ⟨v, G2, J2, rv, q⟩
    exact ⟨v, G2, J2.os, J2.bare, J2.base, J2.hok, rv, q⟩
  · cases r with
    | error e => exact tk e s2 (XE.of_call I1 (fun cls d H' z => incl cls d H' z) q)
    | ok fl =>
      cases fl with
      | ret u => exact I1.after q
      | next => exact absurd q id
      | brk => exact absurd q id
      | cont => exact absurd q id
/-- the def that calls what it got: TT, what it makes of the lambda's reading -/
def ActGives (X : Cx) (Ng : List Str) (x : Str) (sg : Scope) (g : Addr) (cdg : Value) (bg : List Stmt) (a : Str) (q : Str) (TT : (XK → Hp → VK → Prop) → Hp → VK → Prop) : Prop :=
  ∀ (f c : Addr) (s : Shared) (H : Hp) (Q : VK) (tl : XK → Hp → VK → Prop), (∀ (W : WX) (pn : List (Addr × Obj)) (xe : Value → Shared → Prop) (p1 p2 : Pos), Takes ((cxOf C8.CX0 X.prog X.w X.K X.mg X.base Ng x sg g cdg X.A X.stack s H C8.E0).tr pn xe) W →
      PE ((cxOf C8.CX0 X.prog X.w X.K X.mg X.base Ng x sg g cdg X.A X.stack s H C8.E0).tr pn xe) (.Call (.Name a p1) [] [] p2) (fun σZ HZ Q => ∃ E0 : XK, (∀ cls d H', E0 cls d H' → W cls d σZ H') ∧ σZ[0]? = some (some (.ref f)) ∧ HZ c = some (LamX.CodeO c q) ∧ tl E0 HZ Q)) → H c = some (LamX.CodeO c q) → TT tl H Q →
    ∃ t, PSs (cxOf C8.CX0 X.prog X.w X.K X.mg X.base Ng x sg g cdg X.A X.stack s H C8.E0).nox bg t ∧ t { nx := fun _ H' => Q .non H', rt := Q } (L2.start Ng [.ref f]) H
end
/-- action() in a suite -/
def tbAct (f c : Addr) (q : Str) (tl : XK → Hp → VK → Prop) (W : WX) : TS := fun D σ H => ∃ E0 : XK, (∀ cls d H', E0 cls d H' → W cls d σ H') ∧ σ[0]? = some (some (.ref f)) ∧ H c = some (LamX.CodeO c q) ∧ tl E0 H (fun _ H1 => D.nx σ H1)
theorem body_act {X : Cx} {a q : Str} {f c : Addr} {tl : XK → Hp → VK → Prop} {W : WX} {pn : List (Addr × Obj)} {xe : Value → Shared → Prop} {p1 p2 p3 : Pos} (act : ∀ (W : WX) (pn : List (Addr × Obj)) (xe : Value → Shared → Prop) (p1 p2 : Pos), Takes (X.tr pn xe) W →
      PE (X.tr pn xe) (.Call (.Name a p1) [] [] p2) (fun σZ HZ Q => ∃ E0 : XK, (∀ cls d H', E0 cls d H' → W cls d σZ H') ∧ σZ[0]? = some (some (.ref f)) ∧ HZ c = some (LamX.CodeO c q) ∧ tl E0 HZ Q)) (tk : Takes (X.tr pn xe) W) : PSs (X.tr pn xe) [.Expr (.Call (.Name a p1) [] [] p2) p3] (tbAct f c q tl W) := by
  refine ⟨fun pins s σ H D I h => ?_⟩
  exact (pss_one (ps_expr (pos := p3) (act W pn xe p1 p2 tk))).run pins s σ H D I h
/-- a suite, its reading found when its error is known -/
def tSuite (X : Cx) (suite : List Stmt) (a : Addr) (cls : Value) (d : Option Addr) : TS := fun D σ H => ∀ (oe : Obj) (pn : List (Addr × Obj)), Zc cls d oe → (∃ vs, oe.data = .fields vs) → ∃ t : TS, PSs (X.suite a ((a, oe) :: pn)) suite t ∧ t D σ H
theorem suite_any {X : Cx} {suite : List Stmt} {a : Addr} {cls : Value} {d : Option Addr} {oe : Obj} {pn : List (Addr × Obj)} (hz : Zc cls d oe) (hf : ∃ vs, oe.data = .fields vs) : PSs (X.suite a ((a, oe) :: pn)) suite (tSuite X suite a cls d) :=
  ⟨fun pins s σ H D I h => let ⟨_, p, k⟩ := h oe pn hz hf; p.run pins s σ H D I k⟩
section
variable [Tabl] {X : Cx}
/-- TT: what the def makes of the lambda's reading; the reading itself at the heap behind the making -/
def tLamS (TT : (XK → Hp → VK → Prop) → Hp → VK → Prop) (t : XK → TE) : TE := fun σ H Q => Good H ∧ ∀ H1, Same H H1 → TT (fun E H' Q' => t E σ H' Q') H1 Q
/-- x(lambda: body), x a def of one parameter -/
theorem pe_lam {TT : (XK → Hp → VK → Prop) → Hp → VK → Prop} {x a : Str} {g c P : Addr} {k : Nat} {st : Stmt} {fd : FuncData} {Ng : List Str} {params : Arguments} {body : Expr} {scope : Scope} {t : XK → TE} {p lpos pos : Pos} (F : Fun X.K x x st g fd) (hb : Binds X.K fd [a] []) (Sg : FnScope Ng [a] (defScope st))
    (hG : ∀ cdg, ActGives X Ng x (defScope st) g cdg (defBody st) a (qLam X) TT) (TB : LamX.TabB X.base X.mg c P) (mem : (P, qLam X) ∈ Tabl.T) (code : X.env.code = .ref c) (hr : Room (k + 2) X.A) (L : LamX.LamS X.env.scope scope) (hm : X.mg x = some (.ref g))
    (hbody : ∀ (A : Around) (outer : List Env) (s : Shared) (H : Hp) (E : XK) (f c' : Addr), Room k (A.deeper (LamX.lamEnv X scope s.heap.objs.size f c')) → PE (LamX.lamCx X A outer s H E scope f c') body (t E)) (hN : Ng[0]? = some a := by rfl) (hv : Vis (defScope st) a := by first | exact Or.inl rfl | exact Or.inr (Or.inl rfl))
    (hg : Gl X x := by rfl) (plain : defaultsOf params X.env = ([], []) := by rfl) (hbind : ∀ (q : Str) (cl : List (Str × Addr)) (pm cv ctv : Value), bindArgs (PySem.W.kla_fn "<lambda>" q params body scope cl pm cv ctv) ⟨[], []⟩ = pure [] := by intros; rfl)
    (d1 : (x == ("__debug__" : Str)) = false := by decide) (d2 : (a == ("__debug__" : Str)) = false := by decide) (d3 : (a == ("__classdict__" : Str)) = false := by decide) :
    PE X (.Call (.Name x p) [.Lambda params body scope lpos] [] pos) (tLamS TT t) := by
  obtain ⟨oc, od, kV, doc, pm, an, cdv, ct, osl, rfl, lk, cd⟩ := F.ex
  refine ⟨fun pins s σ H Q I ⟨good, h⟩ => ?_⟩
  refine wpAny_Call_Name_kw (ld_glob I hg hm (PySem.W.callWith_K (h₀ := X.base) I.ok.mod.kin F.kp ?_ (by rfl) (by rfl)) d1)
  show wpAny _ _ (spliced ((false, eval (.Lambda params body scope lpos) X.env) :: backTo pos (starEach [] X.env))) _ _ s
  refine Calls.spliced_cons (lam_made I TB code mem good L plain fun f c' pm1 ct1 H1 s1 I1 sm at_ nf far is => Calls.spliced_nil ⟨I1.kIn, ?_⟩)
  refine wpAny_call (codeAny_mono (LamX.run_ofS (CX := C8.CX0) (Q := Q) (E := C8.E0) (N := Ng) (ps := [a]) (us := [.ref f]) (vs := [.ref f]) lk cd Sg hr I1.env0 (hb s1 [.ref f] I1.kIn rfl) (.cons rfl .nil) rfl fun hr1 => ?_) fun r s2 q => ?_)
  · obtain ⟨t1, h1, h2⟩ := hG cdv f c' s1 H1 Q (fun E H' Q' => t E σ H' Q') (fun W pn xe p1 p2 tk => pe_actS (i := 0) (t := t) I1 L at_ nf far (hbind _ _ _ _ _) tk hr1 (fun A outer s H E hr2 => hbody A outer s H E f c' hr2) hN hv d2 d3) is (h H1 sm)
    exact ⟨t1, h1.nox, h2⟩
  · cases r with
    | error e => exact absurd q id
    | ok fl =>
      cases fl with
      | ret u => exact I1.after q
      | next => exact absurd q id
      | brk => exact absurd q id
      | cont => exact absurd q id
end
end Lb


namespace Lb
open PySem PySem.Spec PyProof.Rows L2
/-! ### z.index(c), c one sign -/
theorem occ_at (s sub : Str) (hi limit : Nat) : ∀ (l : List Nat) (st : Array Nat × Nat), (∀ j ∈ st.fst.toList, j + sub.length ≤ hi ∧ Builtin.Str.subAt s sub j = true) → ∀ j ∈ (forIn l st (StrLaws.occBody s sub hi limit)).run.fst.toList, j + sub.length ≤ hi ∧ Builtin.Str.subAt s sub j = true
  | [], _, h => h
  | a :: l, st, h => by
    rw [List.forIn_cons]
    unfold StrLaws.occBody
    split
    · rename_i hc
      refine occ_at s sub hi limit l _ fun j hj => ?_
      rw [Array.toList_push] at hj
      rcases List.mem_append.mp hj with m | m
      · exact h j m
      · rw [List.mem_singleton.mp m]
        exact ⟨hc.1.2, hc.2⟩
    · exact occ_at s sub hi limit l _ h
theorem index_sign {z : Str} {c k : Nat} (h : Txt.index0 z ⟨#[c]⟩ = some k) : (cs z)[k]? = some c := by
  unfold Txt.index0 at h
  have m := List.mem_of_mem_head? (by rw [h]; rfl : k ∈ (Builtin.Str.occurrences z ⟨#[c]⟩ 0 z.length 1).head?)
  rw [StrLaws.occ_eq] at m
  exact (StrLaws.subAt_one z c k).mp (occ_at z ⟨#[c]⟩ _ 1 _ _ (fun j hj => absurd hj (by simp)) k m)
theorem index_none {z : Str} {c : Nat} (h : Txt.index0 z ⟨#[c]⟩ = none) : c ∉ cs z := fun m => by
  unfold Txt.index0 at h
  have f := StrLaws.found_one z c
  rw [decide_eq_true (show c ∈ z.cps.toList from m), List.head?_eq_none_iff.mp h] at f
  cases f
theorem for_str {x : Str} {g : TG} {tb : TS} {D : Ends} {σ : L2.St} {H : Hp} (Pv : Nat → L2.St → Hp → Prop) (h0 : Pv 0 σ H) (hs : ∀ (i c : Nat) (σ : L2.St) (H : Hp), (cs x)[i]? = some c → Pv i σ H → g (.str ⟨#[c]⟩) σ H fun σ2 H2 => tb { D with nx := Pv (i + 1), ct := Pv (i + 1), bk := D.nx } σ2 H2)
    (hd : ∀ σ H, Pv (cs x).length σ H → D.nx σ H) : ∃ W : Nat → Nat → L2.St → Hp → Prop, (∃ m, W 0 m σ H) ∧ ∀ i m σ H, W i m σ H → ((Its x).stop i H ∧ D.nx σ H) ∨
      ((Its x).go i H ∧ ∃ N : L2.St → Hp → Prop, (∀ σ' H', N σ' H' → ∃ m', m' < m ∧ W (i + 1) m' σ' H') ∧ ∀ v H', (Its x).yld i H v H' → g v σ H' fun σ2 H2 => tb { D with nx := N, ct := N, bk := D.nx } σ2 H2) := by
  have e : (cs x).length = x.cps.size := Array.length_toList
  rw [e] at hd
  refine for_it walk_str Pv h0 (fun _ _ _ _ _ => True.intro) (fun i v σ H H' _ p y => ?_) hd
  obtain ⟨rfl, c, hc, rfl⟩ := y
  exact hs i c σ _ ((Array.getElem?_toList ..).trans hc) p
/-! ### the number of a word: the letters' places, counted from 1, in the base of the letters -/
def pl (z : Str) (c : Nat) : Nat := (cs z).idxOf c
theorem idx_at : ∀ {l : List Nat} {j c : Nat}, l.Nodup → l[j]? = some c → l.idxOf c = j
  | [], j, c, _, h => by simp at h
  | x :: l, 0, c, _, h => by
    cases h
    simp
  | x :: l, j + 1, c, nd, h => by
    obtain ⟨n1, n2⟩ := List.nodup_cons.mp nd
    have h' : l[j]? = some c := h
    have ne : x ≠ c := fun e => n1 (e ▸ List.mem_of_getElem? h')
    rw [List.idxOf_cons, idx_at n2 h', beq_eq_false_iff_ne.mpr ne]
    rfl
theorem pl_at {z : Str} {j c : Nat} (nd : (cs z).Nodup) (h : (cs z)[j]? = some c) : pl z c = j := idx_at nd h
theorem pl_lt {z : Str} {c : Nat} (h : c ∈ cs z) : pl z c < (cs z).length := List.idxOf_lt_length_of_mem h
def num (z : Str) (l : List Nat) : Nat := l.foldl (fun i c => i * (cs z).length + pl z c + 1) 0
theorem num_snoc (z : Str) (l : List Nat) (c : Nat) : num z (l ++ [c]) = num z l * (cs z).length + pl z c + 1 := by
  unfold num
  rw [List.foldl_append]
  rfl
theorem num_lt {z : Str} (h4 : (cs z).length ≤ 4) : ∀ (n : Nat) (l : List Nat), l.length = n → (∀ c ∈ l, c ∈ cs z) → num z l + 1 ≤ 8 ^ l.length
  | 0, l, e, _ => by
    rw [List.length_eq_zero_iff.mp e]
    exact Nat.le_refl _
  | n + 1, l, e, h => by
    rcases List.eq_nil_or_concat l with rfl | ⟨l, c, rfl⟩
    · cases e
    rw [List.concat_eq_append] at *
    have i1 := num_lt h4 n l (by simpa using e) fun d m => h d (List.mem_append_left _ m)
    have i2 := pl_lt (h c (List.mem_append_right _ List.mem_cons_self))
    have i3 : num z l * (cs z).length ≤ num z l * 4 := Nat.mul_le_mul_left _ h4
    have i4 : 1 ≤ 8 ^ l.length := Nat.one_le_pow _ _ (by decide)
    rw [num_snoc, List.length_append, List.length_singleton, Nat.pow_succ]
    omega
theorem num_wide {z : Str} (h4 : (cs z).length ≤ 4) {l : List Nat} (h : ∀ c ∈ l, c ∈ cs z) (hl : l.length ≤ 4000) : num z l < 2 ^ 12000 := by
  have a := num_lt h4 _ l rfl h
  have b : (8 : Nat) ^ l.length ≤ 8 ^ 4000 := Nat.pow_le_pow_right (by decide) hl
  have c : (8 : Nat) ^ 4000 = 2 ^ 12000 := by
    rw [show 12000 = 3 * 4000 from rfl, Nat.pow_mul]
  omega
end Lb

namespace Lb
open PySem PySem.Spec PyProof.Rows L2
/-- how many words of fewer than m letters there are over k letters -/
def geo (k : Nat) : Nat → Nat
  | 0 => 0
  | m + 1 => geo k m + k ^ m
theorem geo_up (k : Nat) : ∀ m, geo k (m + 1) = k * geo k m + 1
  | 0 => by simp [geo]
  | m + 1 => by
    have ih := geo_up k m
    have e1 : geo k (m + 2) = geo k (m + 1) + k ^ (m + 1) := rfl
    have e2 : geo k (m + 1) = geo k m + k ^ m := rfl
    have e3 : k * geo k m + 1 = geo k m + k ^ m := ih.symm.trans e2
    have e4 : k * (k * geo k m + 1) = k * geo k m + k * k ^ m := by rw [e3, Nat.mul_add]
    rw [e1, ih, e4, Nat.pow_succ, Nat.mul_comm (k ^ m) k]
    omega
theorem geo_mono (k : Nat) {a b : Nat} (h : a ≤ b) : geo k a ≤ geo k b := by
  induction b with
  | zero =>
    rw [Nat.le_zero.mp h]
    exact Nat.le_refl _
  | succ b ih =>
    by_cases e : a = b + 1
    · rw [e]
      exact Nat.le_refl _
    · exact Nat.le_trans (ih (by omega)) (Nat.le_add_right _ _)
theorem num_geo {z : Str} (h1 : 1 ≤ (cs z).length) : ∀ (n : Nat) (l : List Nat), l.length = n → (∀ c ∈ l, c ∈ cs z) → geo (cs z).length n ≤ num z l ∧ num z l < geo (cs z).length (n + 1)
  | 0, l, e, _ => by
    rw [List.length_eq_zero_iff.mp e]
    exact ⟨Nat.le_refl _, by show 0 < 0 + 1; omega⟩
  | n + 1, l, e, h => by
    rcases List.eq_nil_or_concat l with rfl | ⟨l, c, rfl⟩
    · cases e
    rw [List.concat_eq_append] at *
    obtain ⟨i1, i2⟩ := num_geo h1 n l (by simpa using e) fun d m => h d (List.mem_append_left _ m)
    have i3 := pl_lt (h c (List.mem_append_right _ List.mem_cons_self))
    rw [num_snoc, geo_up _ n, geo_up _ (n + 1), Nat.mul_comm (num z l)]
    have j1 : (cs z).length * geo (cs z).length n ≤ (cs z).length * num z l := Nat.mul_le_mul_left _ i1
    have j2 : (cs z).length * (num z l + 1) ≤ (cs z).length * geo (cs z).length (n + 1) := Nat.mul_le_mul_left _ i2
    rw [Nat.mul_add] at j2
    exact ⟨by omega, by omega⟩
theorem num_cons (z : Str) (c : Nat) : ∀ l : List Nat, num z (c :: l) = (pl z c + 1) * (cs z).length ^ l.length + num z l := by
  have key : ∀ (l : List Nat) (a : Nat), l.foldl (fun i c => i * (cs z).length + pl z c + 1) a = a * (cs z).length ^ l.length + num z l := by
    intro l
    induction l with
    | nil => intro a; simp [num]
    | cons d l ih =>
      intro a
      have e : num z (d :: l) = (0 * (cs z).length + pl z d + 1) * (cs z).length ^ l.length + num z l := ih _
      rw [List.foldl_cons, ih, e, List.length_cons, Nat.pow_succ, Nat.zero_mul, Nat.zero_add, Nat.add_mul, Nat.add_mul, Nat.add_mul, Nat.mul_assoc, Nat.mul_comm (cs z).length]
      omega
  intro l
  have e : num z (c :: l) = (0 * (cs z).length + pl z c + 1) * (cs z).length ^ l.length + num z l := key l _
  rw [e, Nat.zero_mul, Nat.zero_add]
end Lb

namespace Lb
open PySem PySem.Spec PyProof.Rows L2
theorem idx_inj : ∀ {l : List Nat} {c d : Nat}, c ∈ l → d ∈ l → l.idxOf c = l.idxOf d → c = d
  | x :: l, c, d, hc, hd, e => by
    rw [List.idxOf_cons, List.idxOf_cons] at e
    by_cases h1 : x = c
    · by_cases h2 : x = d
      · exact h1.symm.trans h2
      · simp [h1, beq_eq_false_iff_ne.mpr (h1 ▸ h2)] at e
    · by_cases h2 : x = d
      · simp [h2, beq_eq_false_iff_ne.mpr (h2 ▸ h1)] at e
      · have m1 : c ∈ l := (List.mem_cons.mp hc).resolve_left (Ne.symm h1)
        have m2 : d ∈ l := (List.mem_cons.mp hd).resolve_left (Ne.symm h2)
        rw [beq_eq_false_iff_ne.mpr h1, beq_eq_false_iff_ne.mpr h2] at e
        exact idx_inj m1 m2 (by simpa using e)
/-- unlike words have unlike numbers -/
theorem num_inj {z : Str} : ∀ (n : Nat) (a b : List Nat), a.length = n → (∀ c ∈ a, c ∈ cs z) → (∀ c ∈ b, c ∈ cs z) → num z a = num z b → a = b
  | 0, a, b, la, _, hb, e => by
    rw [List.length_eq_zero_iff.mp la] at e ⊢
    rcases List.eq_nil_or_concat b with rfl | ⟨b, d, rfl⟩
    · rfl
    · rw [List.concat_eq_append, num_snoc] at e
      have : num z [] = 0 := rfl
      omega
  | n + 1, a, b, la, ha, hb, e => by
    rcases List.eq_nil_or_concat a with rfl | ⟨a, c, rfl⟩
    · cases la
    rw [List.concat_eq_append] at *
    rcases List.eq_nil_or_concat b with rfl | ⟨b, d, rfl⟩
    · rw [num_snoc] at e
      have : num z [] = 0 := rfl
      omega
    rw [List.concat_eq_append] at *
    rw [num_snoc, num_snoc] at e
    have mc := ha c (List.mem_append_right _ List.mem_cons_self)
    have md := hb d (List.mem_append_right _ List.mem_cons_self)
    have lc := pl_lt mc
    have ld := pl_lt md
    have e0 : num z a * (cs z).length + pl z c = num z b * (cs z).length + pl z d := by omega
    have k0 : 0 < (cs z).length := by omega
    have e1 : pl z c = pl z d := by
      have := congrArg (· % (cs z).length) e0
      simpa [Nat.add_mod, Nat.mul_mod_left, Nat.mod_eq_of_lt lc, Nat.mod_eq_of_lt ld] using this
    have e2 : num z a = num z b := by
      have : num z a * (cs z).length = num z b * (cs z).length := by omega
      exact Nat.eq_of_mul_eq_mul_right k0 this
    rw [num_inj n a b (by simpa using la) (fun x m => ha x (List.mem_append_left _ m)) (fun x m => hb x (List.mem_append_left _ m)) e2, idx_inj mc md e1]
end Lb

namespace Lb
open PySem PySem.Spec PyProof.Rows L2
theorem num_app (z : Str) (a : List Nat) : ∀ b : List Nat, num z (a ++ b) = num z a * (cs z).length ^ b.length + num z b := by
  have key : ∀ (l : List Nat) (s : Nat), l.foldl (fun i c => i * (cs z).length + pl z c + 1) s = s * (cs z).length ^ l.length + num z l := by
    intro l
    induction l with
    | nil => intro s; simp [num]
    | cons d l ih =>
      intro s
      rw [List.foldl_cons, ih, num_cons, List.length_cons, Nat.pow_succ, Nat.add_mul, Nat.add_mul, Nat.add_mul, Nat.mul_assoc, Nat.mul_comm (cs z).length]
      omega
  intro b
  have e : num z (a ++ b) = b.foldl (fun i c => i * (cs z).length + pl z c + 1) (num z a) := by
    unfold num
    rw [List.foldl_append]
  rw [e, key]
theorem num_first {z : Str} {c : Nat} (h : pl z c = 0) : ∀ n, num z (List.replicate n c) = geo (cs z).length n
  | 0 => rfl
  | n + 1 => by
    rw [List.replicate_succ', num_snoc, num_first h n, h, geo_up, Nat.mul_comm]
end Lb

namespace Lb
open PySem PySem.Spec PyProof.Rows L2
theorem pl_get {z : Str} {c : Nat} (h : c ∈ cs z) : (cs z)[pl z c]? = some c := by
  have l := pl_lt h
  rw [List.getElem?_eq_getElem l]
  exact congrArg some (List.getElem_idxOf l)
theorem pl_mono {z : Str} (asc : (cs z).Pairwise (· < ·)) {c d : Nat} (hc : c ∈ cs z) (hd : d ∈ cs z) (h : c < d) : pl z c < pl z d := by
  have gc := pl_get hc
  have gd := pl_get hd
  obtain ⟨ic, ec⟩ := List.getElem?_eq_some_iff.mp gc
  obtain ⟨id, ed⟩ := List.getElem?_eq_some_iff.mp gd
  by_cases k : pl z c < pl z d
  · exact k
  · by_cases e : pl z c = pl z d
    · rw [idx_inj hc hd e] at h
      exact absurd h (Nat.lt_irrefl _)
    · have := List.pairwise_iff_getElem.mp asc (pl z d) (pl z c) id ic (by omega)
      omega
/-- words of one length: the numbers rise as the words do -/
theorem num_rise {z : Str} (asc : (cs z).Pairwise (· < ·)) (k1 : 1 ≤ (cs z).length) : ∀ (a b : List Nat), a.length = b.length → (∀ c ∈ a, c ∈ cs z) → (∀ c ∈ b, c ∈ cs z) → a < b → num z a < num z b
  | [], [], _, _, _, h => absurd h (by simp)
  | c :: a, d :: b, l, ha, hb, h => by
    have l' : a.length = b.length := by simpa using l
    have mc := ha c List.mem_cons_self
    have md := hb d List.mem_cons_self
    have sa := fun x m => ha x (List.mem_cons_of_mem _ m)
    have sb := fun x m => hb x (List.mem_cons_of_mem _ m)
    rw [num_cons, num_cons, l']
    rcases List.cons_lt_cons_iff.mp h with q | ⟨rfl, q⟩
    · have pm := pl_mono asc mc md q
      have ga := (num_geo k1 a.length a rfl sa).2
      have gb := (num_geo k1 b.length b rfl sb).1
      rw [l'] at ga
      have up : geo (cs z).length (b.length + 1) = geo (cs z).length b.length + (cs z).length ^ b.length := rfl
      have m2 : (pl z c + 2) * (cs z).length ^ b.length ≤ (pl z d + 1) * (cs z).length ^ b.length := Nat.mul_le_mul_right _ (by omega)
      have e2 : (pl z c + 2) * (cs z).length ^ b.length = (pl z c + 1) * (cs z).length ^ b.length + (cs z).length ^ b.length := by
        rw [show pl z c + 2 = (pl z c + 1) + 1 by omega, Nat.add_mul (pl z c + 1) 1, Nat.one_mul]
      omega
    · have := num_rise asc k1 a b l' sa sb q
      omega
theorem lt_tri : ∀ (a b : List Nat), a.length = b.length → a < b ∨ a = b ∨ b < a
  | [], [], _ => .inr (.inl rfl)
  | c :: a, d :: b, l => by
    rcases Nat.lt_trichotomy c d with q | q | q
    · exact .inl (List.cons_lt_cons_iff.mpr (.inl q))
    · subst q
      rcases lt_tri a b (by simpa using l) with k | k | k
      · exact .inl (List.cons_lt_cons_iff.mpr (.inr ⟨rfl, k⟩))
      · exact .inr (.inl (by rw [k]))
      · exact .inr (.inr (List.cons_lt_cons_iff.mpr (.inr ⟨rfl, k⟩)))
    · exact .inr (.inr (List.cons_lt_cons_iff.mpr (.inl q)))
/-- the numbers rise as the word order does -/
theorem num_order {z : Str} (al : IsAlpha z) {x y : Str} (ox : Over z x) (oy : Over z y) : (num z (cs x) < num z (cs y)) ↔ (x.length < y.length ∨ (x.length = y.length ∧ cs x < cs y)) := by
  have k1 : 1 ≤ (cs z).length := by
    rw [cs_len]
    exact al.len1
  have far : ∀ {u v : Str}, Over z u → Over z v → u.length < v.length → num z (cs u) < num z (cs v) := fun {u v} ou ov h => by
    have h1 := (num_geo k1 _ (cs u) rfl ou).2
    have h2 := (num_geo k1 _ (cs v) rfl ov).1
    have h3 := geo_mono (cs z).length (show (cs u).length + 1 ≤ (cs v).length by rw [cs_len, cs_len]; exact h)
    omega
  constructor
  · intro h
    by_cases a : x.length < y.length
    · exact .inl a
    · by_cases b : y.length < x.length
      · have := far oy ox b
        omega
      · refine .inr ⟨by omega, ?_⟩
        by_cases l : cs x < cs y
        · exact l
        · by_cases e : cs x = cs y
          · rw [e] at h
            exact absurd h (Nat.lt_irrefl _)
          · have g : cs y < cs x := by
              rcases lt_tri (cs x) (cs y) (by rw [cs_len, cs_len]; omega) with q | q | q
              · exact absurd q l
              · exact absurd q e
              · exact q
            have := num_rise al.asc k1 (cs y) (cs x) (by rw [cs_len, cs_len]; omega) oy ox g
            omega
  · rintro (h | ⟨h, l⟩)
    · exact far ox oy h
    · exact num_rise al.asc k1 _ _ (by rw [cs_len, cs_len]; exact h) ox oy l
end Lb

namespace Lb
open PySem PySem.Spec PyProof.Rows L2
/-! ### (number, text) < (number, text) -/
def rKeyLt (K : PySem.W.Frag) : R2 := fun x y H Q => ∃ (a b : Addr) (n m : Int) (u v : Str), x = .ref a ∧ y = .ref b ∧ SqT K H a [.int n, .str u] ∧ SqT K H b [.int m, .str v] ∧ Q (.bl (if n = m then decide (u.cps.toList < v.cps.toList) else decide (n < m))) H
theorem op_keyLt {X : Cx} (hu : X.A.units < cLine) : OpR X (compareOp .Lt) (rKeyLt X.K) := by
  intro pins s σ H x y v u Q I rx ry h
  obtain ⟨a, b, n, m, p, q, rfl, rfl, ha, hb, k⟩ := h
  cases rx
  cases ry
  obtain ⟨its, r1, p1, _⟩ := I.tuple ha
  obtain ⟨its2, r2, p2, _⟩ := I.tuple hb
  obtain ⟨x1, x2, rfl, ⟨t1, rfl⟩, ⟨t2, rfl⟩⟩ := vals2 r1
  obtain ⟨y1, y2, rfl, ⟨t3, rfl⟩, ⟨t4, rfl⟩⟩ := vals2 r2
  have R := Ob.RcOp.tuples_lt (A := X.A) (s := s) (e := fun j => if j = 0 then decide (n = m) else decide (p = q)) (r := fun j => if j = 0 then decide (n < m) else decide (p.cps.toList < q.cps.toList)) p1 p2 hu (fun j h1 h2 => by
    match j, h1, h2 with
    | 0, _, _ =>
      have z : (n == m) = decide (n = m) := by
        by_cases q : n = m
        · rw [decide_eq_true q]; exact beq_iff_eq.mpr q
        · rw [decide_eq_false q]; exact beq_eq_false_iff_ne.mpr q
      show SeqAt.EqAt _ _ (.int n t1) (.int m t3) (decide (n = m))
      rw [← z]
      exact SeqAt.EqAt.int_int _ _ _ _
    | 1, _, _ =>
      have z : (p == q) = decide (p = q) := by
        by_cases e : p = q
        · rw [decide_eq_true e]; exact beq_iff_eq.mpr e
        · rw [decide_eq_false e]; exact beq_eq_false_iff_ne.mpr e
      show SeqAt.EqAt _ _ (.str p t2) (.str q t4) (decide (p = q))
      rw [← z]
      exact SeqAt.EqAt.str_str _ _ _ _) (fun j h1 h2 _ => by
    match j, h1, h2 with
    | 0, _, _ => exact Ob.RcOp.lt_int _ _ _ _
    | 1, _, _ => exact fun _ _ _ _ h => PyProof.Rows.lt_str h)
  have e : Ob.lexAt (fun j => if j = 0 then decide (n = m) else decide (p = q)) (fun j => if j = 0 then decide (n < m) else decide (p.cps.toList < q.cps.toList)) (decide (2 < 2)) 0 2 = (if n = m then decide (p.cps.toList < q.cps.toList) else decide (n < m)) := by
    show (if decide (n = m) = true then (if decide (p = q) = true then decide (2 < 2) else decide (p.cps.toList < q.cps.toList)) else decide (n < m)) = _
    by_cases e1 : n = m
    · by_cases e2 : p = q
      · subst e2
        simp [e1, List.lt_irrefl]
      · simp [e1, e2]
    · simp [e1]
  have z : wpAny (model X.prog X.w) X.A (compareOp .Lt (.ref a) (.ref b)) (EP X pins σ Q) X.xe s := R X.prog X.w X.xe (EP X pins σ Q) ⟨.bl _, H, I, rfl, by
    have e' := e
    rw [← e'] at k
    exact k⟩
  exact z
end Lb

namespace Lb
open PySem PySem.Spec PyProof.Rows L2 Builtin.Str SC
/-! ### sep.join(reversed(xs)), xs a list of texts -/
theorem join_rev {P : Program} {w : World} {A : Around} {E Q : Value → Shared → Prop} {s : Shared} {sep : Str} {t : Tok} {it l : Addr} {items : Array Value} {xs : List Str} (calm : A.handled = none) (at_ : s.heap.IsRevIter it l ((items.size : Int) - 1)) (of : s.heap.IsList l items) (ne : l ≠ it) (small : items.size ≤ sizeLine) (its : StrsAre items.toList xs)
    (fits : JoinOk sep xs.reverse = true) (q : ∀ (h' : Heap) (tk : Nat) (t' : Tok), (∀ b o, b ≠ it → s.heap.get? b = some o → h'.get? b = some o) → Q (.str (Txt.join sep xs.reverse) t') { s with heap := h', toks := tk }) : wpAny (model P w) A (call (.builtin "str.join") [.str sep t, .ref it]) Q E s := by
  refine wpAny_call (codeAny_call_builtin F.slot_str_join.plain F.entry_str_join (F.slot_str_join.check _ _ _ _ _ _ _ _ (typeIs_str _ _ _) (F.args_str_join_2 _ _) ?_))
  rw [join_tree_other]
  refine wpAny_bind (wpAny_typeOf at_.typeIs ?_)
  show wpAny _ A.in1 ((pyIter (.ref it)).tryCatch _ >>= fun i => collect i >>= fun ys => joinTail sep ys) _ _ s
  refine wpAny_bind (wpAny_tryCatch (wpAny_pyIter_revIter at_ (wpAny_bind (RT.collect_rev (A := A.in1) calm at_ of ne small fun h' tk acc keep back => ?_))))
  have its2 : ∀ (n : Nat) (vs : List Value) (ys : List Str), vs.length = n → vs.length = ys.length → (∀ (j : Nat) (v : Value), vs[j]? = some v → ∃ (y : Str) (u : Tok), ys[j]? = some y ∧ v = Value.str y u) → ∃ ps : List (Str × Tok), strValues ps = vs ∧ ps.map (·.1) = ys := by
    intro n
    induction n with
    | zero =>
      intro vs ys h1 h2 _
      rw [List.length_eq_zero_iff.mp h1] at *
      rw [List.length_eq_zero_iff.mp h2.symm]
      exact ⟨[], rfl, rfl⟩
    | succ n ih =>
      intro vs ys h1 h2 h3
      match vs, ys, h1, h2, h3 with
      | v :: vs, y :: ys, h1, h2, h3 =>
        obtain ⟨y', u, e1, e2⟩ := h3 0 v rfl
        cases e1
        obtain ⟨ps, p1, p2⟩ := ih vs ys (by simpa using h1) (by simpa using h2) fun j v hj => h3 (j + 1) v hj
        refine ⟨(y, u) :: ps, ?_, by rw [List.map_cons, p2]⟩
        rw [e2, ← p1]
        rfl
  have len : items.toList.length = xs.length := its.length
  have la : acc.toList.length = xs.reverse.length := by
    rw [List.length_reverse, ← len, Array.length_toList, Array.length_toList]
    exact back.1
  obtain ⟨ps, e1, e2⟩ := its2 _ acc.toList xs.reverse rfl la fun j v hj => by
    have hb : items[items.size - 1 - j]? = some v := back.2 j v (by rw [← Array.getElem?_toList]; exact hj)
    have lj : j < acc.toList.length := (List.getElem?_eq_some_iff.mp hj).1
    rw [← Array.getElem?_toList] at hb
    obtain ⟨u, ev⟩ := SS.strs_at its _ _ hb
    have lx : j < xs.length := by
      rw [la, List.length_reverse] at lj
      exact lj
    rw [Array.length_toList] at len
    refine ⟨_, u, ?_, ev⟩
    rw [List.getElem?_reverse lx, len, List.getD_eq_getElem?_getD, List.getElem?_eq_getElem (by omega)]
    rfl
  rw [← e1]
  rw [← e2] at fits
  have no : Builtin.Str.tooLong ((ps.map (·.1)).toArray.foldl (· + ·.length + sep.length) 0) = false := by
    have f := fits
    unfold JoinOk at f
    exact (Bool.not_eq_true' _).mp f
  have made : Gives (joinTail sep (strValues ps)) (joinMade sep ps) := by
    have g := gives_joinTail sep ps no
    clear its2 e1 e2 fits
    rcases ps with _ | ⟨p1, _ | ⟨p2, r⟩⟩
    · exact g
    · exact g
    · exact g
  exact made P w A (wants Q E) _ (post_join ps ⟨joinFit_length no, fun t' k => by
    rw [e2]
    exact q h' k t' keep⟩)
def tJoinRev (K : PySem.W.Frag) (to te : TE) : TE := fun σ H Q => to σ H fun v H1 => ∃ sep : Str, v = .str sep ∧ te σ H1 fun u H2 => ∃ (l : Addr) (ws : List Str), u = .ref l ∧ SqL K H2 l (ws.map V.str) ∧ JoinOk sep ws.reverse = true ∧ Q (.str (Txt.join sep ws.reverse)) H2
theorem pe_joinRev {X : Cx} {o e : Expr} {to te : TE} {apos p p2 cpos : Pos} (hc : X.calm = true) (hg : Gl X "reversed") (hm : X.mg "reversed" = none) (ho : PE X o to) (he : PE X e te) (base : attributeBase o "join" X.env (eval o X.env) = eval o X.env := by rfl)
    (s1 : starEach [.Call (.Name "reversed" p) [e] [] p2] X.env = (false, eval (.Call (.Name "reversed" p) [e] [] p2) X.env) :: starEach [] X.env := by rfl) (s2 : starEach [e] X.env = (false, eval e X.env) :: starEach [] X.env := by rfl)
    (few : ((backTo cpos (starEach [.Call (.Name "reversed" p) [e] [] p2] X.env)).all (fun x => !x.1) && (backToKw cpos (keywordEach [] X.env)).all (fun x => x.1.isSome) && decide (([.Call (.Name "reversed" p) [e] [] p2] : List Expr).length + ([] : List Keyword).length + (if ([] : List Keyword).isEmpty then 0 else 1) < 30)) = true := by rfl)
    (line : (apos.endLine == cpos.line) = true := by rfl) (no : (backTo cpos (starEach [] X.env)).any (·.1) = false := by rfl) (no2 : (backTo p2 (starEach [] X.env)).any (·.1) = false := by rfl) : PE X (.Call (.Attribute o "join" apos) [.Call (.Name "reversed" p) [e] [] p2] [] cpos) (tJoinRev X.K to te) := by
  refine ⟨fun pins s σ H Q I h => ?_⟩
  refine wpAny_Call_method_late base few line rfl (thn (ho.run pins s σ H _ I h) fun v sa ⟨x, H1, I1, r1, sep, ex, h1⟩ => ?_)
  subst ex
  obtain ⟨tk, rfl⟩ := (show ∃ t, v = Value.str sep t from r1)
  refine ⟨"str", _, PySem.F.plainAttrs_str, PySem.F.slot_str_join, PySem.F.type_str_join, typeIs_str _ _ _, (fun _ e => nomatch e), ?_⟩
  rw [s1]
  refine Calls.callWith_builtin (by show (false || (backTo cpos (starEach [] X.env)).any (·.1)) = false; rw [no] <;> rfl) (Calls.evalArgs_plain ?_)
  show wpAny _ _ (spliced ((false, eval (.Call (.Name "reversed" p) [e] [] p2) X.env) :: backTo cpos (starEach [] X.env))) _ _ sa
  refine Calls.spliced_cons ?_
  refine wpAny_Call_Name_kw (ld_blt I1 hg hm (show bootBuiltins "reversed" = some (.type "reversed") by decide +kernel) (PyProof.Rows.callWith_type1 ?_ s2 (by rfl)))
  rw [s2]
  refine Calls.spliced_cons (thn (he.run pins sa σ H1 _ I1 h1) fun u sb ⟨y, H2, I2, r2, l, ws, ey, hl, fits, q⟩ => Calls.spliced_nil ?_)
  subst ey
  cases r2
  obtain ⟨its, rv, list, size⟩ := I2.list hl
  have IL := list.isList
  refine call_reversed_list IL (Calls.spliced_nil ?_)
  obtain ⟨ol, el, _⟩ := id IL
  have lt : l < sb.heap.objs.size := Heap.lt_size el
  refine join_rev (items := its.toArray) (l := l) (xs := ws) (I2.ok.hd hc) ⟨_, Heap.get?_push_size _ rfl, rfl, rfl⟩ (IL.push _) (Nat.ne_of_lt lt) ?_ rv.strs fits fun h' t2 t3 keep => ?_
  · rw [List.size_toArray, ← rv.length]
    exact size
  · exact ⟨.str _, H2, I2.kept (t' := t2) fun b o e => keep b o (Nat.ne_of_lt (Heap.lt_size e)) (Heap.get?_push_of_some _ e), ⟨t3, rfl⟩, q⟩
/-- a list of signs as texts -/
def signS (c : Nat) : Str := ⟨#[c]⟩
theorem join_fits {l : List Nat} (h : l.length ≤ 16000000) : JoinOk (Str.ofString "") (l.map signS) = true := by
  have key : ∀ (l : List Nat) (a : Nat), (l.map signS).foldl (fun x y => x + y.length + (Str.ofString "").length) a = a + l.length := by
    intro l
    induction l with
    | nil => intro a; rfl
    | cons c l ih =>
      intro a
      rw [List.map_cons, List.foldl_cons, ih, List.length_cons]
      show a + 1 + 0 + l.length = _
      omega
  have e : (l.map signS).toArray.foldl (fun x y => x + y.length + (Str.ofString "").length) 0 = l.length := by
    rw [List.foldl_toArray', key, Nat.zero_add]
    rfl
  unfold JoinOk
  rw [e]
  show (!decide (l.length > 16777216)) = true
  rw [decide_eq_false (by omega)]
  rfl
theorem join_signs (l : List Nat) : cs (Txt.join (Str.ofString "") (l.map signS)) = l := by
  rw [cs_join0, List.map_map]
  induction l with
  | nil => rfl
  | cons c l ih =>
    rw [List.map_cons, List.flatten_cons, ih]
    rfl
end Lb

namespace SetQ
open PySem PySem.Spec PyProof.Rows L2 PySem.Froz
open Sem (wp)
/-! ### sorted(set(a)) of an ascending text a -/
theorem tail_ris (ep : Nat) (es1 : Array (Int × Value)) (t2 : SetTable) (wd : Bool) (r : Ris t2.place.toList) : Ris (tailTx ep es1 t2 wd).2.2.place.toList ∧ (tailTx ep es1 t2 wd).2.2.led = t2.led := by
  unfold tailTx
  split
  · exact ⟨relayAll_ris _ _ _, relayAll_led _ _ _⟩
  · exact ⟨r, rfl⟩
theorem addTx_ris (h : Int) (v : Value) (D : SD) (r : Ris D.2.2.place.toList) : Ris (addTx h v D).2.2.place.toList ∧ (addTx h v D).2.2.led = D.2.2.led := by
  have r1 := layNew_ris D.2.2 D.1 h v r
  have l1 := layNew_led D.2.2 D.1 h v
  have mid : ∀ t : SetTable, t = (if (layNew D.2.2 D.1 h v).2.1.plain = true then { (layNew D.2.2 D.1 h v).2.1 with plain := false } else (layNew D.2.2 D.1 h v).2.1) → Ris t.place.toList ∧ t.led = D.2.2.led := by
    intro t e
    rw [e]
    split
    · exact ⟨r1, l1⟩
    · exact ⟨r1, l1⟩
  have m := mid _ rfl
  have q := tail_ris D.2.1 (layNew D.2.2 D.1 h v).1 _ (layNew D.2.2 D.1 h v).2.2.1 m.1
  exact ⟨q.1, q.2.trans m.2⟩
theorem runD_ris (w : World) : ∀ (l : List Nat) (tk : Tok) (D : SD), Ris D.2.2.place.toList → Ris (runD w l tk D).2.2.place.toList ∧ (runD w l tk D).2.2.led = D.2.2.led
  | [], _, _, r => ⟨r, rfl⟩
  | c :: l, tk, D, r => by
    have s := addTx_ris (hashStr w (sing c)) (.str (sing c) tk) D r
    have i := runD_ris w l (tk + 2) _ s.1
    exact ⟨i.1, i.2.trans s.2⟩
theorem runD_ok {P : Program} {w : World} : ∀ (l : List Nat) (tk : Tok) (D : SD) (m : List Str), TxOk P w D m → (∀ c ∈ l, sing c ∉ m) → l.Nodup → TxOk P w (runD w l tk D) (l.reverse.map sing ++ m)
  | [], _, _, _, F, _, _ => F
  | c :: l, tk, D, m, F, hn, nd => by
    obtain ⟨n1, n2⟩ := List.nodup_cons.mp nd
    have i := runD_ok l (tk + 2) _ (sing c :: m) (add_ok tk F) (fun d hd hm => ?_) n2
    · rw [List.reverse_cons, List.map_append, List.append_assoc]
      exact i
    · rcases List.mem_cons.mp hm with q | q
      · have e : [d] = [c] := congrArg (fun y : Str => y.cps.toList) q
        rw [(List.cons.inj e).1] at hd
        exact n1 hd
      · exact hn d (List.mem_cons_of_mem _ hd) q
section
variable {P : Program} {w : World} {A : Around} {E : Value → Shared → Prop} {s : Shared}
def freshT (w : World) : SetTable := .fresh 0 0 (!w.params.followText "set-order")
def setObj0 (w : World) : Obj := { cls := .type "set", dict := none, data := .set #[] 0 (freshT w) }
theorem new_set1 (a : Value) {Q₁ : Value → Shared → Prop} (h : Q₁ (.ref s.heap.objs.size) { s with heap := s.heap.push (setObj0 w) }) :
    codeAny (model P w) A (.call (.builtin "set.__new__") ⟨[.type "set", a], []⟩) (wants Q₁ E) s := by
  refine codeAny_of_tree ?_
  show wpAny _ A.in1 (do checkBuiltinCall "set.__new__" ⟨[.type "set", a], []⟩; again (.builtin "set.__new__" ⟨[.type "set", a], []⟩)) _ _ s
  refine wpAny_bind (wpAny_of_eq (F.newCall_set_1 a) (wpAny_pure ⟨plainId_quiet F.plain_set_new _, codeAny_builtin F.entry_set_new ?_⟩))
  rw [Around.under_plainId F.plain_set_new _]
  unfold Builtin.«set.__new__» Builtin.Frozenset.newClass
  have isS := sub_set_self
  obtain ⟨hp, g, d, tk, os⟩ := s
  dsimp only
  wp_walk
  refine wpAny_askSetting (wpAny_pure ?_)
  dsimp only
  simp only [newObj]
  exact wpAny_bind (wpAny_alloc (wpAny_pure (wpAny_pure h)))
set_option maxHeartbeats 3200000 in
/-- set(x), x a text of unlike ascii signs: its payload; what stood stands -/
theorem call_setT {x : Str} {u : Tok} {Q : Value → Shared → Prop} (hh : A.handled = none) (asc : x.cps.all (· < 128) = true) (nd : x.cps.toList.Nodup) (hb : x.cps.toList.length < scanBound)
    (h : ∀ (h' : Heap) (tk : Nat) (D : SD), h'.get? s.heap.objs.size = some (sObj "set" D) → TxOk P w D (x.cps.toList.reverse.map sing) → Ris D.2.2.place.toList → D.2.2.led = (!w.params.followText "set-order") →
      (∀ b o, s.heap.get? b = some o → h'.get? b = some o) → Q (.ref s.heap.objs.size) { s with heap := h', toks := tk }) :
    wpAny (model P w) A (call (.type "set") [.str x u]) Q E s := by
  obtain ⟨c, tl, hmro⟩ := F.called_set.mro
  have hmade := F.called_set.made
  have hsub := F.called_set.sub
  refine wpAny_call (codeAny_of_tree ?_)
  show wpAny _ _ (callAny (.type "set") _) _ _ _
  refine wpAny_pure ⟨Code.quiet_builtin _ (by decide +kernel), codeAny_builtin F.entry_type_call ?_⟩
  rw [Around.under_plain (weight_type_call_type "set" [.str x u] []) rfl]
  have n1 := F.called_set.notType
  have n2 := F.called_set.canCreate
  have n3 := F.typeCall_set_1 (.str x u)
  repeat (any_goals (first | assumption | wp_step))
  refine codeAny_mono (new_set1 (.str x u) (E := E) (Q₁ := fun obj s₁ => obj = .ref s.heap.objs.size ∧ s₁ = { s with heap := s.heap.push (setObj0 w) }) ⟨rfl, rfl⟩) fun r s₁ hr => ?_
  cases r with
  | error e => exact hr
  | ok fl =>
    cases fl with
    | ret obj =>
      obtain ⟨rfl, rfl⟩ := hr
      have at0 : (s.heap.push (setObj0 w)).get? s.heap.objs.size = some (setObj0 w) := Heap.get?_push_size _ rfl
      have ty0 : Shared.TypeIs { s with heap := s.heap.push (setObj0 w) } (.ref s.heap.objs.size) "set" := ⟨_, at0, rfl⟩
      have hli := F.called_set.init.lookup
      have hbi := F.called_set.init.bind (.ref s.heap.objs.size)
      repeat (any_goals (first | assumption | wp_step))
      refine codeAny_mono (codeAny_call_builtin (R := wants (fun r s₂ => r = .none ∧ ∃ h' tk D, s₂ = { s with heap := h', toks := tk } ∧ h'.get? s.heap.objs.size = some (sObj "set" D) ∧ TxOk P w D (x.cps.toList.reverse.map sing) ∧ Ris D.2.2.place.toList ∧
          D.2.2.led = (!w.params.followText "set-order") ∧ ∀ b o, s.heap.get? b = some o → h'.get? b = some o) E) F.called_set.init.plain F.entry_set_init (check_set_init_1 ty0 ?_)) fun r₂ s₂ hr₂ => ?_
      · have z1 := F.sub_str_set
        have z2 := F.sub_str_frozenset
        have z3 : (Value.type "str" == Value.type "dict") = false := by decide
        unfold Builtin.«set.__init__» noKeywords Builtin.Frozenset.updateFrom
        generalize hPI : pyIter = PI
        wp_walk
        subst hPI
        refine wpAny_pyIter_ascii asc ?_
        refine wpAny_bind (wpAny_runValue ?_)
        have lt0 : s.heap.objs.size < (s.heap.push (setObj0 w)).objs.size := by
          rw [Heap.size_push]
          exact Nat.lt_succ_self _
        have ne0 : s.heap.objs.size ≠ (s.heap.push (setObj0 w)).objs.size := Nat.ne_of_lt lt0
        have hA : A.in1.in1.handled = none := hh
        refine code_update (P := P) (a := s.heap.objs.size) (it := (s.heap.push (setObj0 w)).objs.size) ne0 (T := "set") (x := x) (u := u) hA x.cps.toList 0 (#[], 0, freshT w) [] _ rfl ?_ ?_ (TxOk.nil (by rfl)) (fun c _ m => absurd m List.not_mem_nil) nd ?_ ?_
        · exact Heap.get?_push_of_some _ at0
        · exact Heap.get?_push_size _ rfl
        · show 0 + x.cps.toList.length < scanBound
          omega
        · have ris0 : Ris (freshT w).place.toList := List.Pairwise.nil
          have rr := runD_ris w x.cps.toList s.toks (#[], 0, freshT w) ris0
          have ok := runD_ok (P := P) (w := w) x.cps.toList s.toks (#[], 0, freshT w) [] (TxOk.nil (by rfl)) (fun c _ m => absurd m List.not_mem_nil) nd
          rw [List.append_nil] at ok
          generalize runD w x.cps.toList s.toks (#[], 0, freshT w) = D at *
          show wpAny _ _ _ _ _ _
          refine wpAny_pure ?_
          show wpAny _ _ (ret Value.none) _ _ _
          refine wpAny_pure ⟨rfl, _, _, D, rfl, ?_, ok, rr.1, rr.2, fun b o e => ?_⟩
          · refine Heap.get?_push_of_some _ (Heap.get?_push_of_some _ ?_)
            refine PySem.Heap.get?_update_of_ne _ (Ne.symm ne0) ?_
            exact get_upd _ (Heap.get?_push_of_some _ at0) rfl
          · have lb : b < s.heap.objs.size := Heap.lt_size e
            refine Heap.get?_push_of_some _ (Heap.get?_push_of_some _ ?_)
            refine PySem.Heap.get?_update_of_ne _ (Nat.ne_of_gt (Nat.lt_trans lb lt0)) ?_
            refine PySem.Heap.get?_update_of_ne _ (Nat.ne_of_gt lb) ?_
            exact Heap.get?_push_of_some _ (Heap.get?_push_of_some _ e)
      · cases r₂ with
        | error e => exact hr₂
        | ok fl₂ =>
          cases fl₂ with
          | ret r =>
            obtain ⟨rfl, h', tk, D, rfl, g1, g2, g3, g4, g5⟩ := hr₂
            repeat (any_goals (first | assumption | wp_step))
            exact h _ _ D g1 g2 g3 g4 g5
          | _ => exact hr₂.elim
    | _ => exact hr.elim
end
end SetQ

namespace SetQ
open PySem PySem.Spec PyProof.Rows L2 PySem.Froz
open Sem (wp)
section
variable {P : Program} {w : World} {A : Around} {E : Value → Shared → Prop} {s : Shared}
theorem nodup_perm {α : Type} [DecidableEq α] : ∀ {l ws : List α}, l.Nodup → (∀ k ∈ l, k ∈ ws) → ws.length = l.length → ws.Perm l
  | [], ws, _, _, hl => by
    have : ws = [] := List.length_eq_zero_iff.mp hl
    rw [this]
  | k :: l, ws, nd, sub, hl => by
    obtain ⟨n1, n2⟩ := List.nodup_cons.mp nd
    have hk := sub k List.mem_cons_self
    have ih := nodup_perm (l := l) (ws := ws.erase k) n2 (fun x hx => ?_) (by rw [List.length_erase_of_mem hk, hl]; rfl)
    · exact (List.perm_cons_erase hk).trans (ih.cons k)
    · have hne : x ≠ k := fun e => n1 (e ▸ hx)
      exact (List.mem_erase_of_ne hne).mpr (sub x (List.mem_cons_of_mem _ hx))
/-- the keys of such a payload, as texts -/
theorem payload_strs {D : SD} {l : List Str} (F : TxOk P w D l) (nd : l.Nodup) : ∃ ws : List Str, StrsAre (D.1.toList.map (·.2)) ws ∧ ws.Perm l := by
  have key : ∀ es : List (Int × Value), ElemsOf (strKind P w) es → ∃ ws : List Str, StrsAre (es.map (·.2)) ws ∧ ws.length = es.length ∧ ∀ k : Str, (∃ e ∈ es, (strKind P w).is k e.2 = true) → k ∈ ws := by
    intro es
    induction es with
    | nil => exact fun _ => ⟨[], .nil, rfl, fun k ⟨e, he, _⟩ => absurd he List.not_mem_nil⟩
    | cons e es ih =>
      intro g
      obtain ⟨ws, h1, h2, h3⟩ := ih g.tail
      obtain ⟨⟨k, hk, _⟩, _⟩ := g.head
      obtain ⟨t, et⟩ := Value.isStrOf_shape (show Value.isStrOf k e.2 = true from hk)
      refine ⟨k :: ws, ?_, by rw [List.length_cons, List.length_cons, h2], fun k' ⟨e', he', hk'⟩ => ?_⟩
      · rw [List.map_cons, et]
        exact .cons k t h1
      · rcases List.mem_cons.mp he' with rfl | he'
        · obtain ⟨t', et'⟩ := Value.isStrOf_shape (show Value.isStrOf k' e'.2 = true from hk')
          rw [et] at et'
          injection et' with e1
          rw [e1]
          exact List.mem_cons_self
        · exact List.mem_cons_of_mem _ (h3 k' ⟨e', he', hk'⟩)
  obtain ⟨ws, h1, h2, h3⟩ := key D.1.toList F.el
  refine ⟨ws, h1, nodup_perm nd (fun k hk => h3 k ((F.mem k).mp hk)) ?_⟩
  rw [h2, Array.length_toList]
  exact F.sz
theorem sorted_setT {D : SD} {a : Addr} {l : List Str} {Q : Value → Shared → Prop} (ha : s.heap.get? a = some (sObj "set" D)) (F : TxOk P w D l) (nd : l.Nodup) (r : Ris D.2.2.place.toList) (hl : D.2.2.led = (!w.params.followText "set-order")) (hh : A.handled = none) (h64 : l.length < 64)
    (hQ : ∀ s' p (out : Array Value) (c : Nat) (ws : List Str), (∀ b o, s.heap.get? b = some o → s'.heap.get? b = some o) → s'.gens = s.gens → s'.os = s.os → s.heap.objs.size ≤ p →
      s'.heap.get? p = some (seqObj "list" out c) → StrsAre out.toList ws → sortedS ws = true → ws.Perm l → Q (.ref p) s') :
    wpAny (model P w) A (call (.builtin "sorted") [.ref a]) Q E s := by
  obtain ⟨es, ep, t⟩ := D
  obtain ⟨ws, hS, pw⟩ := payload_strs F nd
  have hsz : es.size = l.length := F.sz
  have led : w.params.followText "set-order" = true ∨ t.led = true := by
    have hl' : t.led = (!w.params.followText "set-order") := hl
    cases e : w.params.followText "set-order" with
    | true => exact .inl rfl
    | false =>
      rw [e] at hl'
      exact .inr hl'
  refine Calls.call_function_entry kind_sorted plain_sorted entry_sorted (args_sorted1 _) ?_
  unfold Builtin.«sorted»
  refine wpAny_bind (m := checkCount "sorted" 1 1 _) (wpAny_pure ?_)
  refine wpAny_bind (collect_set (A := A.in1) (a := a) (es := es) (ep := ep) (t := t) hh ⟨_, ha, rfl, rfl⟩ F.fit (by rw [hsz]; unfold scanBound; omega) r led fun s1 vs k1 hz g1 o1 pm => ?_)
  have vl : vs.length = l.length := by rw [pm.length_eq, List.length_map, Array.length_toList]; exact hsz
  -- what was collected, as texts
  have toS : ∀ {us vs : List Value}, us.Perm vs → ∀ {ws : List Str}, StrsAre vs ws → ∃ ws', StrsAre us ws' ∧ ws'.Perm ws := by
    intro us vs p
    induction p with
    | nil => exact fun {ws} h => ⟨ws, h, .refl _⟩
    | cons x _ ih =>
      intro ws h
      cases h with
      | cons y t h =>
        obtain ⟨ws', q1, q2⟩ := ih h
        exact ⟨y :: ws', .cons y t q1, q2.cons y⟩
    | swap x y l =>
      intro ws h
      cases h with
      | cons y1 t1 h =>
        cases h with
        | cons y2 t2 h => exact ⟨y2 :: y1 :: _, .cons y2 t2 (.cons y1 t1 h), .swap ..⟩
    | trans _ _ ih1 ih2 =>
      intro ws h
      obtain ⟨w1, q1, q2⟩ := ih2 h
      obtain ⟨w2, q3, q4⟩ := ih1 q1
      exact ⟨w2, q3, q4.trans q2⟩
  obtain ⟨us, hU, pU⟩ := toS pm hS
  refine wpAny_bind (wpAny_newList ?_ (by rw [vl, sizeLine_eq]; omega))
  have at1 : (s1.heap.push (seqObj "list" vs.toArray 0)).get? s1.heap.objs.size = some (seqObj "list" vs.toArray 0) := Heap.get?_push_size _ rfl
  refine wpAny_bind (wpAny_holding (wpAny_call_entry slot_list_sort ⟨_, at1, rfl⟩ entry_list_sort (list_sort_treeK strKind_oneLt at1 hU.keysOf (fun v₁ v₂ rest e => keyKind_strs (by rw [← e]; exact hU)) (by rw [vl]; exact h64) fun st' hp hs => ⟨_, rfl, ?_⟩) (args_list_sort _)))
  obtain ⟨ss', q1, q2, q3⟩ := sorted_out_str hU hp hs
  obtain ⟨c, hc⟩ := sortedHeap_at (vs := vs) (out := (arrOf st').map (·.2)) at1
  refine wpAny_pure ⟨_, rfl, hQ _ s1.heap.objs.size _ c ss' (fun b u e => ?_) g1 o1 hz hc q1 q3 ((q2.trans pU).trans pw)⟩
  have q := k1 b u e
  have hlt := Heap.lt_size q
  refine (sortedHeap_old (Nat.ne_of_lt hlt) (by rw [size_push']; exact Nat.lt_succ_of_lt hlt)).trans ?_
  exact Heap.get?_push_of_some _ q
end
/-- the set of the texts l at a, as its text was walked -/
def SetTx (P : Program) (w : World) (a : Addr) (l : List Str) : HO := .ext fun h => ∃ D, h.get? a = some (sObj "set" D) ∧ TxOk P w D l ∧ Ris D.2.2.place.toList ∧ D.2.2.led = (!w.params.followText "set-order")
section
variable {X : Cx}
/-- set(x) -/
def rSetT (P : Program) (w : World) : List V → Hp → VK → Prop := fun vs H Q => ∃ x : Str, vs = [.str x] ∧ x.cps.all (· < 128) = true ∧ x.cps.toList.Nodup ∧ x.cps.toList.length < 64 ∧ ∀ p, H p = none → Q (.ref p) (upd H p (SetTx P w p (x.cps.toList.reverse.map sing)))
theorem cr_setT (hc : X.calm = true) : CallR X (.type "set") (rSetT X.prog X.w) := by
  intro pins s σ H vs us Q I r h
  obtain ⟨x, rfl, asc, nd, len, q⟩ := h
  obtain ⟨u, rfl, r0⟩ : ∃ u, us = [u] ∧ RelV (.str x) u := by
    cases r with
    | cons a b => cases b; exact ⟨_, rfl, a⟩
  obtain ⟨t, rfl⟩ := r0
  refine call_setT (I.ok.hd hc) asc nd (Nat.lt_of_lt_of_le len (by unfold scanBound; decide)) fun h' tk D g1 g2 g3 g4 k => ?_
  have w1 : ∃ D, h'.get? s.heap.objs.size = some (sObj "set" D) ∧ TxOk X.prog X.w D (x.cps.toList.reverse.map sing) ∧ Ris D.2.2.place.toList ∧ D.2.2.led = (!X.w.params.followText "set-order") := ⟨D, g1, g2, g3, g4⟩
  have hn : H s.heap.objs.size = none := I.hok.fresh (Nat.le_refl _)
  exact ⟨.ref _, upd H s.heap.objs.size (SetTx X.prog X.w s.heap.objs.size (x.cps.toList.reverse.map sing)), I.laid k (Nat.le_refl _) ⟨w1, ⟨_, g1⟩, fun _ _ ⟨D, e, r⟩ st => ⟨D, st _ e, r⟩⟩, rfl, q _ hn⟩
/-- sorted(found) -/
def rSortedTx (P : Program) (w : World) : List V → Hp → VK → Prop := fun vs H Q => ∃ (a : Addr) (l : List Str), vs = [.ref a] ∧ H a = some (SetTx P w a l) ∧ l.Nodup ∧ l.length < 64 ∧ ∀ (ws : List Str) (p : Addr), sortedS ws = true → ws.Perm l → H p = none → Q (.ref p) (upd H p (.lst (ws.map V.str)))
theorem vals_of_strs : ∀ {us : List Value} {xs : List Str}, StrsAre us xs → Vals (xs.map V.str) us
  | _, _, .nil => .nil
  | _, _, .cons x t h => .cons ⟨t, rfl⟩ (vals_of_strs h)
theorem cr_sortedTx (hc : X.calm = true) : CallR X (.builtin "sorted") (rSortedTx X.prog X.w) := by
  intro pins s σ H vs us Q I r h
  obtain ⟨a, l, rfl, ha, nd, len, q⟩ := h
  obtain ⟨D, e1, e2, e3, e4⟩ := (I.hok a _ ha).1
  rw [Vals.ref1 r]
  refine sorted_setT e1 e2 nd e3 e4 (I.ok.hd hc) len fun s' p out c ws k g o hp at_ its srt perm => ?_
  have hn : H p = none := I.hok.fresh hp
  have size : (ws.map V.str).length ≤ sizeLine := by
    rw [List.length_map, perm.length_eq, sizeLine_eq]
    omega
  have J : Inv X pins σ (upd H p (.lst (ws.map V.str))) { s with heap := s'.heap, gens := s'.gens, drawn := s'.drawn, toks := s'.toks } := by
    refine I.call (ch := []) (Un.laid k hp hn) (I.hok.laid k hp ?_) ?_ ?_
    · exact ⟨size, out.toList, c, vals_of_strs its, at_⟩
    · rw [g]
      exact I.bare
    · exact fun _ z => absurd z List.not_mem_nil
  rw [GxR.sh_eta s s' o] at J
  exact ⟨.ref p, _, J, rfl, q ws p srt perm hn⟩
end
/-! ### one-sign texts, sorted -/
theorem le_unique : ∀ {a b : List Nat}, a.Perm b → a.Pairwise (· ≤ ·) → b.Pairwise (· ≤ ·) → a = b
  | [], b, p, _, _ => p.nil_eq
  | x :: a, [], p, _, _ => absurd p.symm.nil_eq (by simp)
  | x :: a, y :: b, p, ha, hb => by
    obtain ⟨a1, a2⟩ := List.pairwise_cons.mp ha
    obtain ⟨b1, b2⟩ := List.pairwise_cons.mp hb
    have xy : x = y := by
      have h1 : x ∈ y :: b := p.mem_iff.mp List.mem_cons_self
      have h2 : y ∈ x :: a := p.mem_iff.mpr List.mem_cons_self
      rcases List.mem_cons.mp h1 with e | e
      · exact e
      · rcases List.mem_cons.mp h2 with k | k
        · exact k.symm
        · exact Nat.le_antisymm (a1 y k) (b1 x e)
    subst xy
    rw [le_unique p.cons_inv a2 b2]
theorem rising_sing : ∀ (r : List Nat) (p : Nat), risingS (sing p) (r.map sing) = true → (∀ d ∈ r, p ≤ d) ∧ r.Pairwise (· ≤ ·)
  | [], p, _ => ⟨fun d h => absurd h List.not_mem_nil, .nil⟩
  | x :: r, p, h => by
    have h' : (!ltCps [x] [p] && risingS (sing x) (r.map sing)) = true := h
    rw [Bool.and_eq_true] at h'
    have px : p ≤ x := by
      have e := h'.1
      unfold ltCps at e
      by_cases g : p ≤ x
      · exact g
      · have lt : x < p := by omega
        simp [lt] at e
    obtain ⟨h1, h2⟩ := rising_sing r x h'.2
    refine ⟨fun d hd => ?_, List.pairwise_cons.mpr ⟨h1, h2⟩⟩
    rcases List.mem_cons.mp hd with e | e
    · rw [e]
      exact px
    · exact Nat.le_trans px (h1 d e)
theorem sorted_sing {l : List Nat} {ws : List Str} (s : sortedS ws = true) (p : ws.Perm (l.map sing)) : ∃ ds : List Nat, ws = ds.map sing ∧ ds.Perm l ∧ ds.Pairwise (· ≤ ·) := by
  have e : ws = (ws.map fun y : Str => y.cps.toList.headD 0).map sing := by
    rw [List.map_map]
    refine (List.map_id ws).symm.trans (List.map_congr_left fun y hy => ?_)
    obtain ⟨c, _, ec⟩ := List.mem_map.mp (p.mem_iff.mp hy)
    rw [← ec]
    rfl
  have q : (ws.map fun y : Str => y.cps.toList.headD 0).Perm l := by
    have := p.map fun y : Str => y.cps.toList.headD 0
    rw [List.map_map] at this
    have id' : (l.map ((fun y : Str => y.cps.toList.headD 0) ∘ sing)) = l := by
      refine (List.map_congr_left fun c _ => ?_).trans (List.map_id l)
      rfl
    rw [id'] at this
    exact this
  refine ⟨_, e, q, ?_⟩
  generalize (ws.map fun y : Str => y.cps.toList.headD 0) = ds at e
  rw [e] at s
  cases ds with
  | nil => exact .nil
  | cons x r =>
    obtain ⟨h1, h2⟩ := rising_sing r x s
    exact List.pairwise_cons.mpr ⟨h1, h2⟩
/-- ascending signs, sorted: the signs as they stand -/
theorem sorted_asc {l : List Nat} {ws : List Str} (a : l.Pairwise (· < ·)) (s : sortedS ws = true) (p : ws.Perm (l.reverse.map sing)) : ws = l.map sing := by
  obtain ⟨ds, e, q, h⟩ := sorted_sing s p
  rw [e, le_unique (q.trans l.reverse_perm) h (a.imp fun h => Nat.le_of_lt h)]
end SetQ

namespace SetQ
open PySem PySem.Spec PyProof.Rows L2 PySem.Froz
open Sem (wp)
/-! ### set(a) of any ascii text a, its signs now and then again -/
section
variable {P : Program} {w : World} {A : Around} {E : Value → Shared → Prop} {s : Shared}
/-- what is in the set is not put in again -/
theorem add_old {a : Addr} {T : String} {D : SD} {l : List Str} {k : Str} {u : Tok} {Q : Bool → Shared → Prop} (ho : s.heap.get? a = some (sObj T D)) (F : TxOk P w D l) (hk : k ∈ l) (hb : l.length < scanBound)
    (h : Q false s) : wpAny (model P w) A (setAddHashed a (.str k u) (hashStr w k)) Q E s := by
  obtain ⟨es, ep, t⟩ := D
  have hd : (sObj T (es, ep, t)).data = .set es ep t := rfl
  have hf : t.fits es.size = true := F.fit
  have hel : ElemsOf (strKind P w) es.toList := F.el
  have hsz : es.size = l.length := F.sz
  have hb0 : es.size < scanBound := by omega
  have hkey : (strKind P w).is k (.str k u) = true := is_str k u
  obtain ⟨j, hj⟩ : ∃ j, List.findIdx? (fun e => (strKind P w).is k e.2) es.toList = some j := by
    cases hr : List.findIdx? (fun e => (strKind P w).is k e.2) es.toList with
    | some j => exact ⟨j, rfl⟩
    | none =>
      obtain ⟨e, he, hp⟩ := (F.mem k).mp hk
      have := List.findIdx?_eq_none_iff.mp hr e he
      rw [this] at hp
      cases hp
  unfold setAddHashed setAddHashedIn
  refine wpAny_holding (wpAny_bind (wpAny_setState_of ho hd hf ?_))
  dsimp only
  rw [byScan_of rfl hb0 hel]
  simp only [↓reduceIte]
  unfold setAddByScan
  refine wpAny_bind ?_
  refine wpAny_bind (wpAny_rule ?_)
  refine wpAny_bind (wpAny_setScan_of (knd := strKind P w) (k := k) hkey ho hd hf hel ?_)
  rw [hj]
  dsimp only
  exact wpAny_pure (wpAny_pure h)
end
section
variable {P : Program} {w : World} {A : Around} {R : Result → Shared → Prop}
/-- the rest of a text's signs into the set, new ones and old ones -/
theorem code_update2 {a it : Addr} (hne : a ≠ it) {T : String} {x : Str} {u : Tok} (hh : A.handled = none) : ∀ (cs : List Nat) (i : Nat) (D : SD) (l : List Str) (s : Shared), x.cps.toList.drop i = cs →
    s.heap.get? a = some (sObj T D) → s.heap.get? it = some (itObj x u i) → TxOk P w D l → l.Nodup → Ris D.2.2.place.toList → l.length + cs.length < scanBound →
    (∀ (h' : Heap) (tk : Nat) (D' : SD) (l' : List Str), (∀ b o, b ≠ a → b ≠ it → s.heap.get? b = some o → h'.get? b = some o) → h'.get? a = some (sObj T D') → TxOk P w D' l' → l'.Nodup → Ris D'.2.2.place.toList → D'.2.2.led = D.2.2.led →
      (∀ k, k ∈ l' ↔ k ∈ l ∨ ∃ c ∈ cs, k = sing c) → l'.length ≤ l.length + cs.length → R (.ok (.ret .none)) { s with heap := h', toks := tk }) →
    codeAny (model P w) A (.builtin "set.update.loop" ⟨[.ref a, .ref it], []⟩) R s
  | [], i, D, l, s, hd, ha, hit, F, nd, ris, _, h => by
    refine codeAny_builtin PyProof.Rows.F.entry_set_update_loop ?_
    rw [Around.under_plainId PyProof.Rows.F.plain_set_update_loop _]
    show wpAny _ A.in1 (pyNext (.ref it) >>= _) _ _ s
    refine wpAny_bind (end_x (u := u) (by exact hh) hit (at_end hd) ?_)
    show wpAny _ A.in1 (ret Value.none) _ _ _
    refine wpAny_pure ?_
    refine h (endHeap s.heap it i) s.toks D l (fun b o ha' hi' e => ?_) ?_ F nd ris rfl (fun k => ⟨.inl, fun q => ?_⟩) (by simp)
    · unfold endHeap
      exact Heap.get?_push_of_some _ (Heap.get?_push_of_some _ (PySem.Heap.get?_update_of_ne _ (Ne.symm hi') e))
    · unfold endHeap
      exact Heap.get?_push_of_some _ (Heap.get?_push_of_some _ (PySem.Heap.get?_update_of_ne _ (Ne.symm hne) ha))
    · rcases q with q | ⟨c, hc, _⟩
      · exact q
      · cases hc
  | c :: r, i, D, l, s, hd, ha, hit, F, nd, ris, hb, h => by
    obtain ⟨hx, hd2⟩ := at_of hd
    have hb2 : l.length + (r.length + 1) < scanBound := hb
    refine codeAny_builtin PyProof.Rows.F.entry_set_update_loop ?_
    rw [Around.under_plainId PyProof.Rows.F.plain_set_update_loop _]
    show wpAny _ A.in1 (pyNext (.ref it) >>= _) _ _ s
    refine wpAny_bind (next_x (u := u) hit hx ?_)
    show wpAny _ A.in1 (holding [Value.str (sing c) s.toks] (setAdd a (.str (sing c) s.toks)) >>= _) _ _ _
    refine wpAny_bind (wpAny_holding ?_)
    unfold setAdd
    refine wpAny_holding ?_
    refine wpAny_bind ((strKind P w).pyHash (k := sing c) (is_str _ _) ?_)
    have ha1 : (s.heap.update it (fun _ => itObj x u (i + 1))).get? a = some (sObj T D) := PySem.Heap.get?_update_of_ne _ (Ne.symm hne) ha
    have hit1 : (s.heap.update it (fun _ => itObj x u (i + 1))).get? it = some (itObj x u (i + 1)) := get_upd _ hit rfl
    by_cases hcl : sing c ∈ l
    · refine add_old (l := l) (D := D) (s := { s with heap := s.heap.update it (fun _ => itObj x u (i + 1)), toks := s.toks + 1 + 1 }) ha1 F hcl (by omega) ?_
      refine wpAny_pure ⟨plainId_quiet PyProof.Rows.F.plain_set_update_loop _, code_update2 hne hh r (i + 1) _ l _ hd2 ha1 hit1 F nd ris (by omega) fun h' tk D' l' k1 k2 k3 k4 k5 k6 k7 k8 => ?_⟩
      refine h h' tk D' l' (fun b o n1 n2 e => k1 b o n1 n2 (PySem.Heap.get?_update_of_ne _ (Ne.symm n2) e)) k2 k3 k4 k5 k6 (fun k => ?_) (by simp only [List.length_cons]; omega)
      rw [k7]
      constructor
      · rintro (q | ⟨d, hd, e⟩)
        · exact .inl q
        · exact .inr ⟨d, List.mem_cons_of_mem _ hd, e⟩
      · rintro (q | ⟨d, hd, e⟩)
        · exact .inl q
        · rcases List.mem_cons.mp hd with q | q
          · subst q
            subst e
            exact .inl hcl
          · exact .inr ⟨d, q, e⟩
    · refine add_x (l := l) (D := D) (s := { s with heap := s.heap.update it (fun _ => itObj x u (i + 1)), toks := s.toks + 1 + 1 }) ha1 F hcl (by omega) ?_
      have ha2 : ((s.heap.update it (fun _ => itObj x u (i + 1))).update a (fun _ => sObj T (addTx (hashStr w (sing c)) (.str (sing c) s.toks) D))).get? a = some (sObj T (addTx (hashStr w (sing c)) (.str (sing c) s.toks) D)) := get_upd _ ha1 rfl
      have hit2 : ((s.heap.update it (fun _ => itObj x u (i + 1))).update a (fun _ => sObj T (addTx (hashStr w (sing c)) (.str (sing c) s.toks) D))).get? it = some (itObj x u (i + 1)) := PySem.Heap.get?_update_of_ne _ hne hit1
      have rr := addTx_ris (hashStr w (sing c)) (.str (sing c) s.toks) D ris
      refine wpAny_pure ⟨plainId_quiet PyProof.Rows.F.plain_set_update_loop _, code_update2 hne hh r (i + 1) _ (sing c :: l) _ hd2 ha2 hit2 (add_ok s.toks F) (List.nodup_cons.mpr ⟨hcl, nd⟩) rr.1 (by show l.length + 1 + r.length < scanBound; omega)
        fun h' tk D' l' k1 k2 k3 k4 k5 k6 k7 k8 => ?_⟩
      refine h h' tk D' l' (fun b o n1 n2 e => k1 b o n1 n2 (PySem.Heap.get?_update_of_ne _ (Ne.symm n1) (PySem.Heap.get?_update_of_ne _ (Ne.symm n2) e))) k2 k3 k4 k5 (k6.trans rr.2) (fun k => ?_) (by simp only [List.length_cons] at *; omega)
      rw [k7]
      constructor
      · rintro (q | ⟨d, hd, e⟩)
        · rcases List.mem_cons.mp q with q | q
          · exact .inr ⟨c, List.mem_cons_self .., q⟩
          · exact .inl q
        · exact .inr ⟨d, List.mem_cons_of_mem _ hd, e⟩
      · rintro (q | ⟨d, hd, e⟩)
        · exact .inl (List.mem_cons_of_mem _ q)
        · rcases List.mem_cons.mp hd with q | q
          · subst q
            subst e
            exact .inl (List.mem_cons_self ..)
          · exact .inr ⟨d, q, e⟩
end
section
variable {P : Program} {w : World} {A : Around} {E : Value → Shared → Prop} {s : Shared}
set_option maxHeartbeats 3200000 in
/-- set(x), x a text of ascii signs: its payload; what stood stands -/
theorem call_setT2 {x : Str} {u : Tok} {Q : Value → Shared → Prop} (hh : A.handled = none) (asc : x.cps.all (· < 128) = true) (hb : x.cps.toList.length < scanBound)
    (h : ∀ (h' : Heap) (tk : Nat) (D : SD) (l : List Str), h'.get? s.heap.objs.size = some (sObj "set" D) → TxOk P w D l → Ris D.2.2.place.toList → D.2.2.led = (!w.params.followText "set-order") → l.Nodup → (∀ k, k ∈ l ↔ ∃ c ∈ x.cps.toList, k = sing c) → l.length ≤ x.cps.toList.length →
      (∀ b o, s.heap.get? b = some o → h'.get? b = some o) → Q (.ref s.heap.objs.size) { s with heap := h', toks := tk }) :
    wpAny (model P w) A (call (.type "set") [.str x u]) Q E s := by
  obtain ⟨c, tl, hmro⟩ := F.called_set.mro
  have hmade := F.called_set.made
  have hsub := F.called_set.sub
  refine wpAny_call (codeAny_of_tree ?_)
  show wpAny _ _ (callAny (.type "set") _) _ _ _
  refine wpAny_pure ⟨Code.quiet_builtin _ (by decide +kernel), codeAny_builtin F.entry_type_call ?_⟩
  rw [Around.under_plain (weight_type_call_type "set" [.str x u] []) rfl]
  have n1 := F.called_set.notType
  have n2 := F.called_set.canCreate
  have n3 := F.typeCall_set_1 (.str x u)
  repeat (any_goals (first | assumption | wp_step))
  refine codeAny_mono (new_set1 (.str x u) (E := E) (Q₁ := fun obj s₁ => obj = .ref s.heap.objs.size ∧ s₁ = { s with heap := s.heap.push (setObj0 w) }) ⟨rfl, rfl⟩) fun r s₁ hr => ?_
  cases r with
  | error e => exact hr
  | ok fl =>
    cases fl with
    | ret obj =>
      obtain ⟨rfl, rfl⟩ := hr
      have at0 : (s.heap.push (setObj0 w)).get? s.heap.objs.size = some (setObj0 w) := Heap.get?_push_size _ rfl
      have ty0 : Shared.TypeIs { s with heap := s.heap.push (setObj0 w) } (.ref s.heap.objs.size) "set" := ⟨_, at0, rfl⟩
      have hli := F.called_set.init.lookup
      have hbi := F.called_set.init.bind (.ref s.heap.objs.size)
      repeat (any_goals (first | assumption | wp_step))
      refine codeAny_mono (codeAny_call_builtin (R := wants (fun r s₂ => r = .none ∧ ∃ h' tk D l, s₂ = { s with heap := h', toks := tk } ∧ h'.get? s.heap.objs.size = some (sObj "set" D) ∧ TxOk P w D l ∧ l.Nodup ∧ (∀ k, k ∈ l ↔ ∃ c ∈ x.cps.toList, k = sing c) ∧ l.length ≤ x.cps.toList.length ∧ Ris D.2.2.place.toList ∧
          D.2.2.led = (!w.params.followText "set-order") ∧ ∀ b o, s.heap.get? b = some o → h'.get? b = some o) E) F.called_set.init.plain F.entry_set_init (check_set_init_1 ty0 ?_)) fun r₂ s₂ hr₂ => ?_
      · have z1 := F.sub_str_set
        have z2 := F.sub_str_frozenset
        have z3 : (Value.type "str" == Value.type "dict") = false := by decide
        unfold Builtin.«set.__init__» noKeywords Builtin.Frozenset.updateFrom
        generalize hPI : pyIter = PI
        wp_walk
        subst hPI
        refine wpAny_pyIter_ascii asc ?_
        refine wpAny_bind (wpAny_runValue ?_)
        have lt0 : s.heap.objs.size < (s.heap.push (setObj0 w)).objs.size := by
          rw [Heap.size_push]
          exact Nat.lt_succ_self _
        have ne0 : s.heap.objs.size ≠ (s.heap.push (setObj0 w)).objs.size := Nat.ne_of_lt lt0
        have hA : A.in1.in1.handled = none := hh
        refine code_update2 (P := P) (a := s.heap.objs.size) (it := (s.heap.push (setObj0 w)).objs.size) ne0 (T := "set") (x := x) (u := u) hA x.cps.toList 0 (#[], 0, freshT w) [] _ rfl ?_ ?_ (TxOk.nil (by rfl)) List.nodup_nil List.Pairwise.nil ?_ ?_
        · exact Heap.get?_push_of_some _ at0
        · exact Heap.get?_push_size _ rfl
        · show 0 + x.cps.toList.length < scanBound
          omega
        · intro h' tk D' l' k1 k2 k3 k4 k5 k6 k7 k8
          show wpAny _ _ _ _ _ _
          refine wpAny_pure ?_
          show wpAny _ _ (ret Value.none) _ _ _
          refine wpAny_pure ⟨rfl, h', tk, D', l', rfl, k2, k3, k4, fun k => ?_, ?_, k5, k6, fun b o e => ?_⟩
          · rw [k7]
            exact ⟨fun q => q.elim (fun z => absurd z List.not_mem_nil) id, .inr⟩
          · have : ([] : List Str).length = 0 := rfl
            omega
          · have lb : b < s.heap.objs.size := Heap.lt_size e
            exact k1 b o (Nat.ne_of_lt lb) (Nat.ne_of_lt (Nat.lt_trans lb lt0)) (Heap.get?_push_of_some _ (Heap.get?_push_of_some _ e))
      · cases r₂ with
        | error e => exact hr₂
        | ok fl₂ =>
          cases fl₂ with
          | ret r =>
            obtain ⟨rfl, h', tk, D, l, rfl, g1, g2, g6, g7, g8, g3, g4, g5⟩ := hr₂
            repeat (any_goals (first | assumption | wp_step))
            exact h _ _ D l g1 g2 g3 g4 g6 g7 g8 g5
          | _ => exact hr₂.elim
    | _ => exact hr.elim
end
section
variable {X : Cx}
/-- set(x), x any ascii text -/
def rSetT2 (P : Program) (w : World) : List V → Hp → VK → Prop := fun vs H Q => ∃ x : Str, vs = [.str x] ∧ x.cps.all (· < 128) = true ∧ x.cps.toList.length < 64 ∧
  ∀ (p : Addr) (l : List Str), H p = none → l.Nodup → (∀ k, k ∈ l ↔ ∃ c ∈ x.cps.toList, k = sing c) → l.length ≤ x.cps.toList.length → Q (.ref p) (upd H p (SetTx P w p l))
theorem cr_setT2 (hc : X.calm = true) : CallR X (.type "set") (rSetT2 X.prog X.w) := by
  intro pins s σ H vs us Q I r h
  obtain ⟨x, rfl, asc, len, q⟩ := h
  obtain ⟨u, rfl, r0⟩ : ∃ u, us = [u] ∧ RelV (.str x) u := by
    cases r with
    | cons a b => cases b; exact ⟨_, rfl, a⟩
  obtain ⟨t, rfl⟩ := r0
  refine call_setT2 (I.ok.hd hc) asc (Nat.lt_of_lt_of_le len (by unfold scanBound; decide)) fun h' tk D l g1 g2 g3 g4 nd mem le k => ?_
  have w1 : ∃ D, h'.get? s.heap.objs.size = some (sObj "set" D) ∧ TxOk X.prog X.w D l ∧ Ris D.2.2.place.toList ∧ D.2.2.led = (!X.w.params.followText "set-order") := ⟨D, g1, g2, g3, g4⟩
  have hn : H s.heap.objs.size = none := I.hok.fresh (Nat.le_refl _)
  exact ⟨.ref _, upd H s.heap.objs.size (SetTx X.prog X.w s.heap.objs.size l), I.laid k (Nat.le_refl _) ⟨w1, ⟨_, g1⟩, fun _ _ ⟨D, e, r⟩ st => ⟨D, st _ e, r⟩⟩, rfl, q _ l hn nd mem le⟩
end
end SetQ

namespace Lb
open PySem PySem.Spec PyProof.Rows L2
/-! ### alphabets: list(x), set(x), sorted -/
def signV (c : Nat) : V := .str ⟨#[c]⟩
theorem vals_at : ∀ (xs : List V) (us : List Value), us.length = xs.length → (∀ (j : Nat) (u : Value), us[j]? = some u → ∃ x, xs[j]? = some x ∧ RelV x u) → Vals xs us
  | [], [], _, _ => .nil
  | x :: xs, u :: us, h, k => by
    obtain ⟨y, e, r⟩ := k 0 u rfl
    cases e
    exact .cons r (vals_at xs us (by simpa using h) fun j v hj => k (j + 1) v hj)
def rListT : List V → Hp → VK → Prop := fun vs H Q => ∃ x : Str, vs = [.str x] ∧ x.length ≤ sizeLine ∧ ∀ p, H p = none → Q (.ref p) (upd H p (.lst ((cs x).map signV)))
theorem cr_listT {X : Cx} (hc : X.calm = true) : CallR X (.type "list") rListT := by
  intro pins s σ H vs us Q I r h
  obtain ⟨x, rfl, len, q⟩ := h
  obtain ⟨u, rfl, t, rfl⟩ : ∃ u, us = [u] ∧ ∃ t, u = .str x t := by
    cases r with
    | cons a b =>
      cases b
      exact ⟨_, rfl, a⟩
  refine PySem.call_list_str (I.ok.hd hc) x t (fun h' tk acc c k e its => ?_)
  refine ⟨.ref s.heap.objs.size, upd H s.heap.objs.size (.lst ((cs x).map signV)), I.laid k (Nat.le_refl _) ⟨?_, acc.toList, c, ?_, e⟩, rfl, q _ (I.hok.fresh (Nat.le_refl _))⟩
  · rw [List.length_map, cs_len]
    exact len
  · refine vals_at _ _ ?_ fun j u hj => ?_
    · rw [List.length_map, cs_len, Array.length_toList]
      exact its.1
    · obtain ⟨cc, tt, hcc, rfl⟩ := its.2 j u (by rw [← Array.getElem?_toList]; exact hj)
      refine ⟨signV cc, ?_, tt, rfl⟩
      rw [List.getElem?_map, show (cs x)[j]? = some cc from (Array.getElem?_toList ..).trans hcc]
      rfl
end Lb
namespace Lb
open PySem PySem.Spec PyProof.Rows L2
/-! ### lists of signs, compared -/
def signD (c : Nat) : PyData := .str ⟨#[c]⟩
theorem dp_signs {K : PySem.W.Frag} {H : Hp} {a : Addr} {l : List Nat} (h : SqL K H a (l.map signV)) : Dp K H (.ref a) (.list (l.map signD)) := by
  refine .lst h ?_
  clear h
  induction l with
  | nil => exact .nil
  | cons c l ih => exact .cons (.str _) ih
theorem eqv_signs : ∀ l m : List Nat, PyData.eqvAll (l.map signD) (m.map signD) = decide (l = m)
  | [], [] => by simp [PyData.eqvAll]
  | [], _ :: _ => by simp [PyData.eqvAll]
  | _ :: _, [] => by simp [PyData.eqvAll]
  | c :: l, d :: m => by
    rw [List.map_cons, List.map_cons, PyData.eqvAll, eqv_signs l m]
    have e : PyData.eqv (signD c) (signD d) = decide (c = d) := by
      show ((⟨#[c]⟩ : Str) == ⟨#[d]⟩) = _
      by_cases h : c = d
      · subst h
        simp
      · rw [decide_eq_false h]
        refine beq_eq_false_iff_ne.mpr fun z => h ?_
        have := congrArg (fun y : Str => y.cps.toList) z
        simpa using this
    rw [e, ← Bool.decide_and]
    simp
theorem shaped_signs {l : List Nat} (h : ∀ c ∈ l, c < 128) : SeqAt.shaped (.list (l.map signD)) = true := by
  have lay : PyData.canLayAll0 (l.map signD) = true := by
    induction l with
    | nil => rfl
    | cons c l ih =>
      have hc := h c List.mem_cons_self
      have one : PyData.canLay0 (signD c) = true := by
        show (#[c] : Array Nat).all (· < 0x110000) = true
        simp
        omega
      rw [List.map_cons, PyData.canLayAll0, one, ih fun d m => h d (List.mem_cons_of_mem _ m)]
      rfl
  have dp : PyData.depthAll (l.map signD) = 0 := by
    clear lay h
    induction l with
    | nil => rfl
    | cons c l ih =>
      rw [List.map_cons, PyData.depthAll, ih]
      rfl
  show (PyData.canLayAll0 (l.map signD) && decide (PyData.depthAll (l.map signD) + 1 ≤ 64)) = true
  rw [lay, dp]
  rfl
theorem nodup_sings {l : List Nat} (h : l.Nodup) : (l.reverse.map PySem.Froz.sing).Nodup := by
  have r : l.reverse.Nodup := List.pairwise_reverse.mpr (h.imp fun e => Ne.symm e)
  refine List.pairwise_map.mpr (r.imp fun {a b} e z => e ?_)
  have := congrArg (fun y : Str => y.cps.toList) z
  have : [a] = [b] := this
  exact (List.cons.inj this).1
end Lb

namespace Lb
open PySem PySem.Spec PyProof.Rows L2
def inR : V → Int → Int → Bool
  | .int i, lo, hi => decide (lo ≤ i) && decide (i ≤ hi)
  | _, _, _ => false
/-- an error of the class at C with that value, at any later heap -/
def Raised [Tabl] (H : Hp) (C : Addr) (v : V) (E : XK) : Prop := ∀ (d : Addr) (H1 H' : Hp), Same H H1 → H1 d = none → H' = upd H1 d (.xd [("value", v)]) → E (.ref C) (some d) H'
theorem Raised.same [Tabl] {H H1 : Hp} {C : Addr} {v : V} {E : XK} (r : Raised H C v E) (s : Same H H1) : Raised H1 C v E := fun d H2 H' s2 n e => r d H2 H' (s.trans s2) n e
/-- v is an alphabet, v is a word over the alphabet L -/
def AlphaV (v : V) : Prop := ∃ z, v = .str z ∧ IsAlpha z
def WordV (L v : V) (m : Nat) : Prop := ∃ z x, L = .str z ∧ v = .str x ∧ IsAlpha z ∧ Over z x ∧ x.length ≤ m
def plainV : V → Bool
  | .non => true
  | .bl _ => true
  | .int _ => true
  | .str _ => true
  | _ => false
/-- equal plain values, or two tuples, two lists with items that rel relates -/
def SameR (rel : Hp → V → V → Prop) (H : Hp) (x y : V) : Prop := (x = y ∧ plainV y = true) ∨ ∃ (p q : Addr) (xs ys : List V), x = .ref p ∧ y = .ref q ∧
  ((H p = some (.tup xs) ∧ H q = some (.tup ys)) ∨ (H p = some (.lst xs) ∧ H q = some (.lst ys))) ∧ xs.length = ys.length ∧ ys.length ≤ 1000000 ∧ ∀ (i : Nat) (x' y' : V), xs[i]? = some x' → ys[i]? = some y' → rel H x' y'
def SameD : Nat → Hp → V → V → Prop
  | 0 => SameR fun _ _ _ => False
  | n + 1 => SameR (SameD n)
/-- a plain value of at most n levels, apart from the store at a -/
def DeepR (a : Addr) (rel : Hp → V → Prop) (H : Hp) (v : V) : Prop := (plainV v = true ∧ (∀ x : Str, v = .str x → x.length ≤ 1000000) ∧ ∀ i : Int, v = .int i → i.natAbs < 2 ^ 13000) ∨
  ∃ (p : Addr) (xs : List V), v = .ref p ∧ p ≠ a ∧ (H p = some (.lst xs) ∨ H p = some (.tup xs)) ∧ xs.length ≤ 1000000 ∧ ∀ x ∈ xs, rel H x
def Deep (a : Addr) : Nat → Hp → V → Prop
  | 0 => DeepR a fun _ _ => False
  | n + 1 => DeepR a (Deep a n)
theorem Deep.but [Tabl] {a : Addr} {H H' : Hp} (k : But a H H') : ∀ {n : Nat} {v : V}, Deep a n H v → Deep a n H' v
  | 0, v, h => h.elim .inl fun ⟨p, xs, e, ne, o, l, r⟩ => .inr ⟨p, xs, e, ne, o.elim (fun q => .inl (k _ _ ne q)) (fun q => .inr (k _ _ ne q)), l, r⟩
  | n + 1, v, h => h.elim .inl fun ⟨p, xs, e, ne, o, l, r⟩ => .inr ⟨p, xs, e, ne, o.elim (fun q => .inl (k _ _ ne q)) (fun q => .inr (k _ _ ne q)), l, fun x m => Deep.but k (r x m)⟩
theorem Deep.same [Tabl] {a : Addr} {H H' : Hp} {n : Nat} {v : V} (h : Deep a n H v) (s : Same H H') : Deep a n H' v := h.but (But.same s)
theorem Deep.up {a : Addr} {H : Hp} : ∀ {n : Nat} {v : V}, Deep a n H v → Deep a (n + 1) H v
  | 0, v, h => h.elim .inl fun ⟨p, xs, e, ne, o, l, r⟩ => .inr ⟨p, xs, e, ne, o, l, fun x m => (r x m).elim⟩
  | n + 1, v, h => h.elim .inl fun ⟨p, xs, e, ne, o, l, r⟩ => .inr ⟨p, xs, e, ne, o, l, fun x m => Deep.up (r x m)⟩
theorem Deep.le {a : Addr} {H : Hp} {n m : Nat} {v : V} (h : Deep a n H v) (l : n ≤ m) : Deep a m H v := by
  induction l with
  | refl => exact h
  | step _ ih => exact ih.up
theorem Deep.shal {a : Addr} {H : Hp} {n : Nat} {v : V} (h : Deep a n H v) : Shal H v := by
  have key : ∀ rel, DeepR a rel H v → Shal H v := by
    rintro rel (⟨pl, tx, _⟩ | ⟨p, xs, e, _, o, _⟩)
    · cases v with
      | non => exact .inr (.inl rfl)
      | bl b => exact .inr (.inr (.inl ⟨b, rfl⟩))
      | int i => exact .inr (.inr (.inr (.inl ⟨i, rfl⟩)))
      | str x => exact .inl ⟨x, rfl, tx x rfl⟩
      | _ => cases pl
    · exact .inr (.inr (.inr (.inr ⟨p, xs, e, o⟩)))
  cases n with
  | zero => exact key _ h
  | succ n => exact key _ h
theorem deep_atom {a : Addr} {H : Hp} {n : Nat} {v : V} (pl : plainV v = true) (tx : ∀ x : Str, v = .str x → x.length ≤ 1000000) (it : ∀ i : Int, v = .int i → i.natAbs < 2 ^ 13000) : Deep a n H v := by
  cases n <;> exact .inl ⟨pl, tx, it⟩
theorem deep_str {a : Addr} {H : Hp} {n : Nat} {x : Str} (l : x.length ≤ 1000000) : Deep a n H (.str x) := deep_atom rfl (fun y e => by cases e; exact l) (fun i e => by cases e)
theorem deep_int {a : Addr} {H : Hp} {n : Nat} {i : Int} (l : i.natAbs < 2 ^ 13000) : Deep a n H (.int i) := deep_atom rfl (fun y e => by cases e) (fun j e => by cases e; exact l)
theorem deep_non {a : Addr} {H : Hp} {n : Nat} : Deep a n H .non := deep_atom rfl (fun y e => by cases e) (fun i e => by cases e)
theorem deep_bl {a : Addr} {H : Hp} {n : Nat} {b : Bool} : Deep a n H (.bl b) := deep_atom rfl (fun y e => by cases e) (fun i e => by cases e)
theorem deep_lst {a p : Addr} {H : Hp} {n : Nat} {xs : List V} (ne : p ≠ a) (e : H p = some (.lst xs)) (l : xs.length ≤ 1000000) (r : ∀ x ∈ xs, Deep a n H x) : Deep a (n + 1) H (.ref p) := .inr ⟨p, xs, rfl, ne, .inl e, l, r⟩
theorem deep_tup {a p : Addr} {H : Hp} {n : Nat} {xs : List V} (ne : p ≠ a) (e : H p = some (.tup xs)) (l : xs.length ≤ 1000000) (r : ∀ x ∈ xs, Deep a n H x) : Deep a (n + 1) H (.ref p) := .inr ⟨p, xs, rfl, ne, .inr e, l, r⟩
theorem Deep.samed {a : Addr} {H : Hp} : ∀ {n : Nat} {v : V}, Deep a n H v → SameD n H v v
  | 0, v, h => h.elim (fun q => .inl ⟨rfl, q.1⟩) fun ⟨p, xs, e, ne, o, l, r⟩ => .inr ⟨p, p, xs, xs, e, e, o.elim (fun q => .inr ⟨q, q⟩) (fun q => .inl ⟨q, q⟩), rfl, l, fun i x y ex ey => (r x (List.mem_of_getElem? ex)).elim⟩
  | n + 1, v, h => h.elim (fun q => .inl ⟨rfl, q.1⟩) fun ⟨p, xs, e, ne, o, l, r⟩ => .inr ⟨p, p, xs, xs, e, e, o.elim (fun q => .inr ⟨q, q⟩) (fun q => .inl ⟨q, q⟩), rfl, l, fun i x y ex ey => by
      rw [ex] at ey
      cases ey
      exact Deep.samed (r x (List.mem_of_getElem? ex))⟩
theorem SameD.keep [Tabl] {H H' : Hp} (s : Same H H') : ∀ {n : Nat} {x y : V}, SameD n H x y → SameD n H' x y
  | 0, x, y, h => h.elim .inl fun ⟨p, q, xs, ys, e1, e2, o, l, m, r⟩ => .inr ⟨p, q, xs, ys, e1, e2, o.elim (fun z => .inl ⟨s _ _ z.1, s _ _ z.2⟩) (fun z => .inr ⟨s _ _ z.1, s _ _ z.2⟩), l, m, fun i a b ea eb => (r i a b ea eb).elim⟩
  | n + 1, x, y, h => h.elim .inl fun ⟨p, q, xs, ys, e1, e2, o, l, m, r⟩ => .inr ⟨p, q, xs, ys, e1, e2, o.elim (fun z => .inl ⟨s _ _ z.1, s _ _ z.2⟩) (fun z => .inr ⟨s _ _ z.1, s _ _ z.2⟩), l, m, fun i a b ea eb => SameD.keep s (r i a b ea eb)⟩
theorem nodup_len : ∀ (l D : List Nat), l.Nodup → (∀ x ∈ l, x ∈ D) → l.length ≤ D.length
  | [], _, _, _ => Nat.zero_le _
  | x :: l, D, nd, h => by
    obtain ⟨h1, h2⟩ := List.nodup_cons.mp nd
    have ih := nodup_len l (D.erase x) h2 fun y hy => (List.mem_erase_of_ne (fun e : y = x => h1 (by rw [← e]; exact hy))).mpr (h y (List.mem_cons_of_mem _ hy))
    have m := h x (List.mem_cons_self ..)
    rw [List.length_erase_of_mem m] at ih
    have := List.length_pos_of_mem m
    rw [List.length_cons]
    omega
/-- one-sign texts joined -/
theorem signs_len {ys : List Str} (h : ∀ y ∈ ys, ∃ c, y = (⟨#[c]⟩ : Str)) : (ys.map (·.length)).sum = ys.length := by
  induction ys with
  | nil => rfl
  | cons y r ih =>
    obtain ⟨c, rfl⟩ := h y List.mem_cons_self
    rw [List.map_cons, List.sum_cons, ih fun x m => h x (List.mem_cons_of_mem _ m), List.length_cons]
    show 1 + r.length = r.length + 1
    omega
theorem join0_len (ys : List Str) : (Txt.join (Str.ofString "") ys).length = (ys.map (·.length)).sum := by
  rw [← cs_len, cs_join0, List.length_flatten, List.map_map]
  congr 1
theorem up3 (c : Nat) : (Txt.upper ⟨#[c]⟩).length ≤ 3 := by
  have h := PyProof.Rows.len_upper (⟨#[c]⟩ : Str)
  have e : (⟨#[c]⟩ : Str).length = 1 := rfl
  omega
theorem Deep.avoid {a D : Addr} {H : Hp} (nd : H D = none) : ∀ {n : Nat} {v : V}, Deep a n H v → Deep D n H v
  | 0, v, h => h.elim .inl fun ⟨p, xs, e, _, o, l, r⟩ => .inr ⟨p, xs, e, fun z => by subst z; rcases o with o | o <;> (rw [nd] at o; cases o), o, l, r⟩
  | n + 1, v, h => h.elim .inl fun ⟨p, xs, e, _, o, l, r⟩ => .inr ⟨p, xs, e, fun z => by subst z; rcases o with o | o <;> (rw [nd] at o; cases o), o, l, fun x m => Deep.avoid nd (r x m)⟩
theorem same_row {H : Hp} {p : Addr} {xs ys : List V} (h : H p = some (.lst xs) ∨ H p = some (.tup xs)) (k : H p = some (.lst ys) ∨ H p = some (.tup ys)) : xs = ys := by
  rcases h with h | h <;> rcases k with k | k <;> (rw [h] at k; cases k) <;> rfl
theorem Deep.put [Tabl] {b D : Addr} {H H' : Hp} (k : But D H H') : ∀ {n : Nat} {v : V}, Deep b n H v → Deep D n H v → Deep b n H' v
  | 0, v, h, g => h.elim .inl fun ⟨p, xs, e, ne, o, l, r⟩ => g.elim .inl fun ⟨q, ys, e2, nd, _⟩ => by
      subst e
      cases e2
      exact .inr ⟨p, xs, rfl, ne, o.elim (fun z => .inl (k _ _ nd z)) (fun z => .inr (k _ _ nd z)), l, r⟩
  | n + 1, v, h, g => h.elim .inl fun ⟨p, xs, e, ne, o, l, r⟩ => g.elim .inl fun ⟨q, ys, e2, nd, o2, _, r2⟩ => by
      subst e
      cases e2
      have := same_row o o2
      subst this
      exact .inr ⟨p, xs, rfl, ne, o.elim (fun z => .inl (k _ _ nd z)) (fun z => .inr (k _ _ nd z)), l, fun x m => Deep.put k (r x m) (r2 x m)⟩
theorem deep_ref {D p : Addr} {H : Hp} {n : Nat} {xs : List V} (g : Deep D n H (.ref p)) (o : H p = some (.lst xs) ∨ H p = some (.tup xs)) : p ≠ D ∧ ∀ m, n = m + 1 → ∀ x ∈ xs, Deep D m H x := by
  cases n with
  | zero =>
    rcases g with ⟨pl, _⟩ | ⟨q, ys, e, ne, _⟩
    · cases pl
    · cases e
      exact ⟨ne, fun m e => by cases e⟩
  | succ n =>
    rcases g with ⟨pl, _⟩ | ⟨q, ys, e, ne, o2, _, r⟩
    · cases pl
    · cases e
      have := same_row o o2
      subst this
      exact ⟨ne, fun m e => by cases e; exact r⟩
theorem SameD.put [Tabl] {D : Addr} {H H' : Hp} (k : But D H H') : ∀ {n : Nat} {x y : V}, SameD n H x y → Deep D n H x → Deep D n H y → SameD n H' x y
  | 0, x, y, h, gx, gy => h.elim .inl fun ⟨p, q, xs, ys, e1, e2, o, l, m, r⟩ => by
      subst e1
      subst e2
      have d1 := (deep_ref gx (o.elim (fun z => .inr z.1) fun z => .inl z.1)).1
      have d2 := (deep_ref gy (o.elim (fun z => .inr z.2) fun z => .inl z.2)).1
      exact .inr ⟨p, q, xs, ys, rfl, rfl, o.elim (fun z => .inl ⟨k _ _ d1 z.1, k _ _ d2 z.2⟩) (fun z => .inr ⟨k _ _ d1 z.1, k _ _ d2 z.2⟩), l, m, fun i a b ea eb => (r i a b ea eb).elim⟩
  | n + 1, x, y, h, gx, gy => h.elim .inl fun ⟨p, q, xs, ys, e1, e2, o, l, m, r⟩ => by
      subst e1
      subst e2
      have d1 := deep_ref gx (o.elim (fun z => .inr z.1) fun z => .inl z.1)
      have d2 := deep_ref gy (o.elim (fun z => .inr z.2) fun z => .inl z.2)
      exact .inr ⟨p, q, xs, ys, rfl, rfl, o.elim (fun z => .inl ⟨k _ _ d1.1 z.1, k _ _ d2.1 z.2⟩) (fun z => .inr ⟨k _ _ d1.1 z.1, k _ _ d2.1 z.2⟩), l, m, fun i a b ea eb => SameD.put k (r i a b ea eb) (d1.2 n rfl a (List.mem_of_getElem? ea)) (d2.2 n rfl b (List.mem_of_getElem? eb))⟩
theorem Same.some [Tabl] {H H' : Hp} (s : Same H H') {b : Addr} (h : H b ≠ none) : H' b ≠ none := fun e => h (s.free e)
/-- x == s, x any plain value, s a text -/
def rEqStr : R2 := fun x y H Q => ∃ z : Str, y = .str z ∧ Shal H x ∧ Q (.bl (decide (x = .str z))) H
theorem op_eqStr {X : Cx} (hu : X.A.units < cLine) : OpR X (compareOp .Eq) rEqStr := by
  intro pins s σ H x y v u Q I rx ry h
  obtain ⟨z, rfl, sx, q⟩ := h
  have flat : scal x (.str z) = true → wpAny (model X.prog X.w) X.A (compareOp .Eq v u) (EP X pins σ Q) X.xe s := fun sc => op_eq pins s σ H x (.str z) v u Q I rx ry ⟨sc, q⟩
  rcases sx with ⟨y, rfl, _⟩ | rfl | ⟨b, rfl⟩ | ⟨i, rfl⟩ | ⟨p, xs, rfl, h | h⟩
  · exact flat rfl
  · exact flat rfl
  · exact flat rfl
  · exact flat rfl
  · rw [decide_eq_false (fun e => by cases e)] at q
    obtain ⟨its, rv, hl, _⟩ := I.list (show SqL X.K H p xs from .inl (.inl h))
    obtain ⟨t', rfl⟩ := ry
    cases rx
    exact SeqAt.RcAt.list_str z t' hl.isList hu X.prog X.w _ _ ⟨.bl false, H, I, rfl, q⟩
  · rw [decide_eq_false (fun e => by cases e)] at q
    obtain ⟨its, rv, hl, _⟩ := I.tuple (show SqT X.K H p xs from .inl (.inl h))
    obtain ⟨t', rfl⟩ := ry
    cases rx
    exact SeqAt.RcAt.tuple_str z t' hl hu X.prog X.w _ _ ⟨.bl false, H, I, rfl, q⟩
def NameS (x : Str) : Prop := 1 ≤ x.length ∧ x.length ≤ 12 ∧ (∀ c, (cs x)[0]? = some c → c ∈ cs abc) ∧ ∀ c ∈ cs x, c ∈ cs abc ∨ c ∈ cs (Str.ofString "0123456789")
def NameV (v : V) : Prop := ∃ x, v = .str x ∧ NameS x
/-! like values, yes or no -/
def DeepE (dp : Hp → V → Prop) (H : Hp) (v : V) : Prop := (plainV v = true ∧ ∀ x : Str, v = .str x → x.length ≤ 1000000) ∨ ∃ (p : Addr) (xs : List V), v = .ref p ∧ (H p = some (.lst xs) ∨ H p = some (.tup xs)) ∧ xs.length ≤ 1000000 ∧ ∀ x ∈ xs, dp H x
def DeepN : Nat → Hp → V → Prop
  | 0 => DeepE fun _ _ => False
  | n + 1 => DeepE (DeepN n)
theorem Deep.toN {a : Addr} {H : Hp} : ∀ {n : Nat} {v : V}, Deep a n H v → DeepN n H v
  | 0, v, h => h.elim (fun q => .inl ⟨q.1, q.2.1⟩) fun ⟨p, xs, e, _, o, l, r⟩ => .inr ⟨p, xs, e, o, l, r⟩
  | n + 1, v, h => h.elim (fun q => .inl ⟨q.1, q.2.1⟩) fun ⟨p, xs, e, _, o, l, r⟩ => .inr ⟨p, xs, e, o, l, fun x m => Deep.toN (r x m)⟩
theorem DeepE.shal {dp : Hp → V → Prop} {H : Hp} {v : V} (h : DeepE dp H v) : Shal H v := by
  rcases h with ⟨pl, tx⟩ | ⟨p, xs, e, o, _⟩
  · cases v with
    | non => exact .inr (.inl rfl)
    | bl b => exact .inr (.inr (.inl ⟨b, rfl⟩))
    | int i => exact .inr (.inr (.inr (.inl ⟨i, rfl⟩)))
    | str x => exact .inl ⟨x, rfl, tx x rfl⟩
    | _ => cases pl
  · exact .inr (.inr (.inr (.inr ⟨p, xs, e, o⟩)))
/-- isinstance(v, tuple), isinstance(v, list) -/
theorem isi_tup {K : PySem.W.Frag} {H : Hp} {v : V} (h : Shal H v) : ∃ (t : Value) (b : Bool), TyX K H v t ∧ PySem.W.kitOne K t (.type "tuple") = some b ∧ (b = true ↔ ∃ p xs, v = .ref p ∧ H p = some (.tup xs)) := by
  rcases h with ⟨x, rfl, _⟩ | rfl | ⟨b, rfl⟩ | ⟨i, rfl⟩ | ⟨p, xs, rfl, h | h⟩
  · exact ⟨_, false, .base (.str x), kit_ty (by decide +kernel), ⟨fun e => (by cases e), fun ⟨p, xs, e, _⟩ => (by cases e)⟩⟩
  · exact ⟨_, false, .base .non, kit_ty (by decide +kernel), ⟨fun e => (by cases e), fun ⟨p, xs, e, _⟩ => (by cases e)⟩⟩
  · exact ⟨_, false, .base (.bl b), kit_ty (by decide +kernel), ⟨fun e => (by cases e), fun ⟨p, xs, e, _⟩ => (by cases e)⟩⟩
  · exact ⟨_, false, .base (.int i), kit_ty (by decide +kernel), ⟨fun e => (by cases e), fun ⟨p, xs, e, _⟩ => (by cases e)⟩⟩
  · exact ⟨_, false, .base (.lst h), kit_ty (by decide +kernel), ⟨fun e => (by cases e), fun ⟨p, xs, e, k⟩ => (by cases e; rw [h] at k; cases k)⟩⟩
  · exact ⟨_, true, .base (.tup h), kit_ty (by decide +kernel), ⟨fun _ => ⟨p, xs, rfl, h⟩, fun _ => rfl⟩⟩
theorem isi_lst {K : PySem.W.Frag} {H : Hp} {v : V} (h : Shal H v) : ∃ (t : Value) (b : Bool), TyX K H v t ∧ PySem.W.kitOne K t (.type "list") = some b ∧ (b = true ↔ ∃ p xs, v = .ref p ∧ H p = some (.lst xs)) := by
  rcases h with ⟨x, rfl, _⟩ | rfl | ⟨b, rfl⟩ | ⟨i, rfl⟩ | ⟨p, xs, rfl, h | h⟩
  · exact ⟨_, false, .base (.str x), kit_ty (by decide +kernel), ⟨fun e => (by cases e), fun ⟨p, xs, e, _⟩ => (by cases e)⟩⟩
  · exact ⟨_, false, .base .non, kit_ty (by decide +kernel), ⟨fun e => (by cases e), fun ⟨p, xs, e, _⟩ => (by cases e)⟩⟩
  · exact ⟨_, false, .base (.bl b), kit_ty (by decide +kernel), ⟨fun e => (by cases e), fun ⟨p, xs, e, _⟩ => (by cases e)⟩⟩
  · exact ⟨_, false, .base (.int i), kit_ty (by decide +kernel), ⟨fun e => (by cases e), fun ⟨p, xs, e, _⟩ => (by cases e)⟩⟩
  · exact ⟨_, true, .base (.lst h), kit_ty (by decide +kernel), ⟨fun _ => ⟨p, xs, rfl, h⟩, fun _ => rfl⟩⟩
  · exact ⟨_, false, .base (.tup h), kit_ty (by decide +kernel), ⟨fun e => (by cases e), fun ⟨p, xs, e, k⟩ => (by cases e; rw [h] at k; cases k)⟩⟩
/-- an atom is like itself alone -/
theorem same_atom {rel : Hp → V → V → Prop} {H : Hp} {x y : V} (h : plainV y = true) : SameR rel H x y ↔ x = y := by
  constructor
  · rintro (⟨e, _⟩ | ⟨p, q, xs, ys, e1, e2, _⟩)
    · exact e
    · rw [e2] at h
      cases h
  · exact fun e => .inl ⟨e, h⟩
/-! what an expression does first, told apart from what is done with its value -/
theorem next_to {D : Ends} {σ : L2.St} {H : Hp} (h : D.nx σ H) : tNext D σ H := h
theorem lift_if {tl : TE} {ta : TA} {sp : Sp} {S tr : TS} {D : Ends} {σ : L2.St} {H : Hp} (Pv : V → Hp → Prop) (h : ∀ Qx : VK, (∀ x H3, Pv x H3 → Qx x H3) → tl σ H Qx)
    (hk : ∀ x H3, Pv x H3 → tSeq (tIfS (tNot (tB (tCall sp [] E0 (tCons (tC x) ta)))) tr tNext) S D σ H3) : tSeq (tIfS (tNot (tB (tCall sp [] E0 (tCons tl ta)))) tr tNext) S D σ H := h _ hk
theorem lift_asg {tl : TE} {S : TS} {tg : TG} {D : Ends} {σ : L2.St} {H : Hp} (Pv : V → Hp → Prop) (h : ∀ Qx : VK, (∀ x H3, Pv x H3 → Qx x H3) → tl σ H Qx)
    (hk : ∀ x H3, Pv x H3 → tSeq (tAsg (tC x) tg) S D σ H3) : tSeq (tAsg tl tg) S D σ H := h _ hk
theorem lift_ret {tl : TE} {ta : TA} {sp : Sp} {D : Ends} {σ : L2.St} {H : Hp} (Pv : V → Hp → Prop) (h : ∀ Qx : VK, (∀ x H3, Pv x H3 → Qx x H3) → tl σ H Qx)
    (hk : ∀ x H3, Pv x H3 → tRet (tCall sp [] E0 (tCons (tC x) ta)) D σ H3) : tRet (tCall sp [] E0 (tCons tl ta)) D σ H := h _ hk
theorem lift_if2 {tl tl2 : TE} {sp : Sp} {S tr : TS} {D : Ends} {σ : L2.St} {H : Hp} (Pv : V → V → Hp → Prop) (h : ∀ Qx : V → VK, (∀ x y H3, Pv x y H3 → Qx x y H3) → tl σ H fun x H1 => tl2 σ H1 fun y H2 => Qx x y H2)
    (hk : ∀ x y H3, Pv x y H3 → tSeq (tIfS (tNot (tB (tCall sp [] E0 (tCons (tC x) (tCons (tC y) tNil))))) tr tNext) S D σ H3) : tSeq (tIfS (tNot (tB (tCall sp [] E0 (tCons tl (tCons tl2 tNil))))) tr tNext) S D σ H := h _ hk
/-! two for in a comprehension -/
theorem lc2_in {J1 : It} {n1 : Nat} {G1 : Hp → Prop} {Y1 : Nat → Hp → V → Hp → Prop} (w : Walk J1 n1 G1 Y1) {g1 : TG} {tt1 : TT} {te : TE} {vs1 : List Nat} {σ2 : L2.St} {H4 : Hp} {D : Addr} {Nx : Hp → Prop} (Pv : Nat → Hp → Prop) (h0 : Pv 0 H4) (hG : ∀ i H, i ≤ n1 → Pv i H → G1 H)
    (hs : ∀ j x H H', j < n1 → Pv j H → Y1 j H x H' → g1 x (wipe σ2 vs1) H' fun σ3 H5 => wipe σ3 vs1 = wipe σ2 vs1 ∧ tt1 σ3 H5 fun b H6 =>
      if b = true then te σ3 H6 fun y H7 => ∃ acc, H7 D = some (.lst acc) ∧ acc.length < sizeLine ∧ Pv (j + 1) (upd H7 D (.lst (acc ++ [y]))) else Pv (j + 1) H6) (hd : ∀ H, Pv n1 H → Nx H) :
    ∃ W1 : Nat → Nat → Hp → Prop, (∃ m, W1 0 m H4) ∧ ∀ j k H, W1 j k H →
      (J1.stop j H ∧ Nx H) ∨ (J1.go j H ∧ ∃ Nx1 : Hp → Prop, (∀ H', Nx1 H' → ∃ k', k' < k ∧ W1 (j + 1) k' H') ∧ ∀ x H', J1.yld j H x H' → g1 x (wipe σ2 vs1) H' fun σ3 H5 => wipe σ3 vs1 = wipe σ2 vs1 ∧ tt1 σ3 H5 fun b H6 =>
        if b = true then te σ3 H6 fun y H7 => ∃ acc, H7 D = some (.lst acc) ∧ acc.length < sizeLine ∧ Nx1 (upd H7 D (.lst (acc ++ [y]))) else Nx1 H6) := by
  refine ⟨fun i m H => m = n1 - i ∧ i ≤ n1 ∧ Pv i H, ⟨n1, by simp, Nat.zero_le _, h0⟩, ?_⟩
  rintro i m H ⟨rfl, hi, q⟩
  have gg := hG i H hi q
  by_cases hlt : i < n1
  · refine .inr ⟨w.goes i H hlt gg, Pv (i + 1), fun H' p' => ⟨n1 - (i + 1), by omega, rfl, hlt, p'⟩, fun x H' y => hs i x H H' hlt q (w.yields i H x H' hlt gg y)⟩
  · have e : i = n1 := by omega
    subst e
    exact .inl ⟨w.stops H gg, hd H q⟩
theorem lc2_out {J : It} {n : Nat} {G : Hp → Prop} {Y : Nat → Hp → V → Hp → Prop} (w : Walk J n G Y) {H1 : Hp} {Qd : Hp → Prop} {Step : (Hp → Prop) → V → Hp → Prop} {D : Addr} (Pv : Nat → Hp → Prop) (h0 : Pv 0 (upd H1 D (.lst []))) (hG : ∀ i H, i ≤ n → Pv i H → G H)
    (hs : ∀ i x H H', i < n → Pv i H → Y i H x H' → Step (Pv (i + 1)) x H') (hd : ∀ H, Pv n H → Qd H) :
    ∃ W : Nat → Nat → Hp → Prop, (∃ m, W 0 m (upd H1 D (.lst []))) ∧ ∀ i m H, W i m H →
      (J.stop i H ∧ Qd H) ∨ (J.go i H ∧ ∃ Nx : Hp → Prop, (∀ H', Nx H' → ∃ m', m' < m ∧ W (i + 1) m' H') ∧ ∀ x H', J.yld i H x H' → Step Nx x H') := by
  refine ⟨fun i m H => m = n - i ∧ i ≤ n ∧ Pv i H, ⟨n, by simp, Nat.zero_le _, h0⟩, ?_⟩
  rintro i m H ⟨rfl, hi, q⟩
  have gg := hG i H hi q
  by_cases hlt : i < n
  · refine .inr ⟨w.goes i H hlt gg, Pv (i + 1), fun H' p' => ⟨n - (i + 1), by omega, rfl, hlt, p'⟩, fun x H' y => hs i x H H' hlt q (w.yields i H x H' hlt gg y)⟩
  · have e : i = n := by omega
    subst e
    exact .inl ⟨w.stops H gg, hd H q⟩
theorem cutV_upto (xs : List V) (k : Nat) : cutV xs none (some (k : Int)) = xs.take k := by
  show (xs.drop (HT.sIx xs.length 0 none)).take (HT.sIx xs.length xs.length (some (k : Int)) - HT.sIx xs.length 0 none) = _
  rw [HT.sIx_none, HT.sIx_nat, List.drop_zero, Nat.sub_zero]
  by_cases h : k ≤ xs.length
  · rw [Nat.min_eq_left h]
  · rw [Nat.min_eq_right (by omega), List.take_of_length_le (Nat.le_refl _), List.take_of_length_le (by omega)]
theorem DeepN.same [Tabl] {H H' : Hp} (s : Same H H') : ∀ {n : Nat} {v : V}, DeepN n H v → DeepN n H' v
  | 0, v, h => h.elim .inl fun ⟨p, xs, e, o, l, r⟩ => .inr ⟨p, xs, e, o.elim (fun z => .inl (s _ _ z)) (fun z => .inr (s _ _ z)), l, fun x m => (r x m).elim⟩
  | n + 1, v, h => h.elim .inl fun ⟨p, xs, e, o, l, r⟩ => .inr ⟨p, xs, e, o.elim (fun z => .inl (s _ _ z)) (fun z => .inr (s _ _ z)), l, fun x m => DeepN.same s (r x m)⟩
theorem skip_seq {c : TT} {t S : TS} {D : Ends} {σ : L2.St} {H : Hp} (Pv : Hp → Prop) (hc : ∀ Q : Bool → Hp → Prop, (∀ H', Pv H' → Q false H') → c σ H Q) (hu : ∀ H', Pv H' → S D σ H') : tSeq (tIfS c t tNext) S D σ H :=
  hc _ fun H' p => iteF (hu H' p)
theorem lift_not {tl : TE} {ta : TA} {sp : Sp} {σ : L2.St} {H : Hp} {Q : Bool → Hp → Prop} (Pv : V → Hp → Prop) (h : ∀ Qx : VK, (∀ x H3, Pv x H3 → Qx x H3) → tl σ H Qx)
    (hk : ∀ x H3, Pv x H3 → tNot (tB (tCall sp [] E0 (tCons (tC x) ta))) σ H3 Q) : tNot (tB (tCall sp [] E0 (tCons tl ta))) σ H Q := h _ hk
theorem lift_call {tl : TE} {ta : TA} {sp : Sp} {σ : L2.St} {H : Hp} {Q : VK} (Pv : V → Hp → Prop) (h : ∀ Qx : VK, (∀ x H3, Pv x H3 → Qx x H3) → tl σ H Qx)
    (hk : ∀ x H3, Pv x H3 → tCall sp [] E0 (tCons (tC x) ta) σ H3 Q) : tCall sp [] E0 (tCons tl ta) σ H Q := h _ hk
/-- a told pair zs, and the pair at d: like ones -/
def PairZ (d : V) (zs : List V) (Hx : Hp) : Prop := ∃ (pd : Addr) (nm : Str) (u w : V), d = .ref pd ∧ Hx pd = some (.tup [.str nm, w]) ∧ zs = [.str nm, u] ∧ SameD 8 Hx u w ∧ DeepN 8 Hx u ∧ DeepN 8 Hx w ∧ nm.length ≤ 1000000
theorem PairZ.same [Tabl] {d : V} {zs : List V} {H H' : Hp} (h : PairZ d zs H) (s : Same H H') : PairZ d zs H' := by
  obtain ⟨pd, nm, u, w, e, hp, ez, sm, du, dw, l⟩ := h
  exact ⟨pd, nm, u, w, e, s _ _ hp, ez, sm.keep s, du.same s, dw.same s, l⟩
theorem PairZ.fit {d : V} {zs : List V} {H : Hp} {t : Addr} (h : PairZ d zs H) (ht : H t = some (.tup zs)) : SameD 9 H (.ref t) d ∧ DeepN 9 H (.ref t) ∧ DeepN 9 H d := by
  obtain ⟨pd, nm, u, w, rfl, hp, rfl, sm, du, dw, l⟩ := h
  have row : ∀ {q : V}, DeepN 8 H q → ∀ y ∈ [V.str nm, q], DeepN 8 H y := fun dq y m => by
    rcases List.mem_cons.mp m with m | m
    · subst m
      exact .inl ⟨rfl, fun z e => by cases e; exact l⟩
    · rw [List.mem_singleton.mp m]
      exact dq
  refine ⟨.inr ⟨t, pd, _, _, rfl, rfl, .inl ⟨ht, hp⟩, rfl, by show 2 ≤ 1000000; decide, fun i x y ex ey => ?_⟩, .inr ⟨t, _, rfl, .inr ht, by show 2 ≤ 1000000; decide, row du⟩, .inr ⟨pd, _, rfl, .inr hp, by show 2 ≤ 1000000; decide, row dw⟩⟩
  match i, ex, ey with
  | 0, ex, ey =>
    cases ex
    cases ey
    exact .inl ⟨rfl, rfl⟩
  | 1, ex, ey =>
    cases ex
    cases ey
    exact sm
theorem SameD.symm {H : Hp} : ∀ {n : Nat} {x y : V}, SameD n H x y → SameD n H y x
  | 0, x, y, h => h.elim (fun q => .inl ⟨q.1.symm, by rw [q.1]; exact q.2⟩) fun ⟨p, q, xs, ys, e1, e2, o, l, m, r⟩ => .inr ⟨q, p, ys, xs, e2, e1, o.elim (fun z => .inl ⟨z.2, z.1⟩) (fun z => .inr ⟨z.2, z.1⟩), l.symm, by omega, fun i a b ea eb => (r i b a eb ea).elim⟩
  | n + 1, x, y, h => h.elim (fun q => .inl ⟨q.1.symm, by rw [q.1]; exact q.2⟩) fun ⟨p, q, xs, ys, e1, e2, o, l, m, r⟩ => .inr ⟨q, p, ys, xs, e2, e1, o.elim (fun z => .inl ⟨z.2, z.1⟩) (fun z => .inr ⟨z.2, z.1⟩), l.symm, by omega, fun i a b ea eb => SameD.symm (r i b a eb ea)⟩
end Lb

namespace GQ
open PySem PySem.Spec PyProof.Rows L2 Lb
variable [Tabl] {X : Cx}
theorem elt_or {P : Addr} {h1 : Heap} {scope : Scope} {x : Str} {e1 e2 : Expr} {pos : Pos} {p1 p2 : Nat → Bool} (a : Elt X P h1 scope x e1 p1) (b : Elt X P h1 scope x e2 p2) : Elt X P h1 scope x (.BoolOp .Or [e1, e2] pos) (fun c => p1 c || p2 c) := by
  intro env A' E' c t r m hs hcl hg hA hn hx keep
  refine wpAny_Or2 (thn (a env A' E' c t r m hs hcl hg hA hn hx keep) fun v r1 ⟨e, k⟩ => ?_)
  subst e
  refine wpAny_truthy_bool ?_
  cases hp : p1 c with
  | true => exact ⟨by show Value.bool true = Value.bool (p1 c || p2 c); rw [hp, Bool.true_or], k⟩
  | false =>
    obtain ⟨h', tk, rfl, kk⟩ := k
    refine thn (b env A' E' c t _ m hs hcl hg hA (hn.at fun o e => kk _ o e) hx (fun b u n e => kk _ _ (keep b u n e))) fun v r2 ⟨e, k2⟩ => ?_
    subst e
    obtain ⟨h2, tk2, rfl, kk2⟩ := k2
    exact ⟨by show Value.bool (p2 c) = Value.bool (p1 c || p2 c); rw [hp, Bool.false_or], h2, tk2, rfl, fun b o e => kk2 _ _ (kk _ _ e)⟩
def tAllG2 (z u : Str) (te : TE) : TE := fun σ H Q => te σ H fun v H1 => ∃ a : Str, v = .str a ∧ Lb.Good H1 ∧ ∀ H2, Lb.Same H1 H2 → Q (.bl (a.cps.toList.all fun c => decide (c ∈ z.cps.toList) || decide (c ∈ u.cps.toList))) H2
def CnGl2 (z u : Str) : L2.St → Hp → (Nat → Bool) → Prop := fun _ _ pb => pb = fun c => decide (c ∈ z.cps.toList) || decide (c ∈ u.cps.toList)
theorem pe_allG2 {c P : Addr} {iter : Expr} {x y yy : Str} {px p pos gpos p1 p2 p3 p4 p5 p6 p7 : Pos} {scope : Scope} {te : TE} {k : Nat} {z u : Str} {tz tu : Tok}
    (hr : Room k X.A) (hm : X.mg "all" = none) (hmy : X.mg y = some (.str z tz)) (hmyy : X.mg yy = some (.str u tu)) (TB : LamX.TabB X.base X.mg c P) (hmem : (P, X.env.qual ++ "<genexpr>") ∈ Tabl.T) (hcode : X.env.code = .ref c) (B : GenB X.env.scope scope x) (hi : PE X iter te)
    (hg : Gl X "all" := by rfl) (hy : scope.names.lookup y = some .globalImplicit := by rfl) (hyy : scope.names.lookup yy = some .globalImplicit := by rfl) (hs : ∀ v, genFold iter X.env v = pure v := by intro _; rfl) (hd : (x == ("__debug__" : Str)) = false := by decide) (hd' : (y == ("__debug__" : Str)) = false := by decide) (hd2 : (yy == ("__debug__" : Str)) = false := by decide)
    (he : starEach [.GeneratorExp (.BoolOp .Or [.Compare (.Name x p1) [.In] [.Name y p2] p3, .Compare (.Name x p4) [.In] [.Name yy p5] p6] p7) [⟨.Name x px, iter, [], 0⟩] scope gpos] X.env = (false, eval (.GeneratorExp (.BoolOp .Or [.Compare (.Name x p1) [.In] [.Name y p2] p3, .Compare (.Name x p4) [.In] [.Name yy p5] p6] p7) [⟨.Name x px, iter, [], 0⟩] scope gpos) X.env) :: starEach [] X.env := by rfl) :
    PE X (.Call (.Name "all" p) [.GeneratorExp (.BoolOp .Or [.Compare (.Name x p1) [.In] [.Name y p2] p3, .Compare (.Name x p4) [.In] [.Name yy p5] p6] p7) [⟨.Name x px, iter, [], 0⟩] scope gpos] [] pos) (tAllG2 z u te) := by
  refine ⟨fun pins s σ H Q I h => ?_⟩
  have S := B.S I.ok
  refine (pe_all (Cn := CnGl2 z u) hr hg hm TB hmem hcode S (pe_weak hi) (fun pins σ H1 s1 pb I1 _ cn => ?_) hs (he := he)).run pins s σ H Q I ⟨_, h, fun v H1 q => ?_⟩
  · cases cn
    exact elt_or (elt_glob S hy hmy TB.gP I1 rfl hd hd') (elt_glob S hyy hmyy TB.gP I1 rfl hd hd2)
  · obtain ⟨a, e1, e2, e3⟩ := q
    exact ⟨a, _, e1, e2, rfl, e3⟩
end GQ

namespace Lb
open PySem PySem.Spec PyProof.Rows L2
/-- where a sign stands in a text of unlike signs -/
theorem find_at {z : Str} {c : Nat} (nd : (cs z).Nodup) : (c ∉ cs z ∧ Txt.find z ⟨#[c]⟩ = -1) ∨ ∃ k : Nat, (cs z)[k]? = some c ∧ Txt.find z ⟨#[c]⟩ = (k : Int) := by
  cases e : Builtin.Str.occurrences z ⟨#[c]⟩ 0 z.length 1 with
  | nil =>
    refine .inl ⟨fun m => ?_, ?_⟩
    · have f := StrLaws.found_one z c
      rw [decide_eq_true (show c ∈ z.cps.toList from m), e] at f
      cases f
    · show (match Builtin.Str.occurrences z ⟨#[c]⟩ 0 z.length 1 with | i :: tail => (i : Int) | [] => -1) = -1
      rw [e]
  | cons k tl =>
    refine .inr ⟨k, ?_, ?_⟩
    · have m : k ∈ Builtin.Str.occurrences z ⟨#[c]⟩ 0 z.length 1 := by
        rw [e]
        exact List.mem_cons_self ..
      rw [StrLaws.occ_eq] at m
      exact (StrLaws.subAt_one z c k).mp (occ_at z ⟨#[c]⟩ _ 1 _ _ (fun j hj => absurd hj (by simp)) k m)
    · show (match Builtin.Str.occurrences z ⟨#[c]⟩ 0 z.length 1 with | i :: tail => (i : Int) | [] => -1) = _
      rw [e]
end Lb

namespace Lb
open PySem PySem.Spec PyProof.Rows L2
/-! ### a lambda that a def passes on to another one -/
section
variable {X : Cx} {pins : List (Addr × Obj)} {σ : L2.St} {H : Hp} {s : Shared}
theorem pe_actS2 {CXg CX1 : CXT} {Eg E1 : XK} {Ng N1 : List Str} {qg q1 : Str} {sg sg1 : Scope} {g f c g1 : Addr} {cdg pm ct cdg1 : Value} {pinsY : List (Addr × Obj)} {σY : L2.St} {H' : Hp} {s' : Shared} {params : Arguments} {body : Expr} {scope : Scope} {k i : Nat} {a : Str} {pn : List (Addr × Obj)} {xe : Value → Shared → Prop} {W : WX} {t : XK → TE} {p1 p2 : Pos} (I : Inv X pins σ H s) (L : LamX.LamS X.env.scope scope)
    (at_ : s.heap.get? f = some (lamO X params body scope pm c ct)) (nf : H f = none) (far : f ∉ frs X.stack) (none_ : bindArgs (PySem.W.kla_fn "<lambda>" (qLam X) params body scope (cloFrom X.env.cells scope.names []) pm (.ref c) ct) ⟨[], []⟩ = pure [])
    (J : Inv (cxOf CX1 X.prog X.w X.K X.mg X.base N1 q1 sg1 g1 cdg1 X.A X.stack s H E1).nox pinsY σY H' s')
    (tk : Takes ((cxOf CXg X.prog X.w X.K X.mg X.base Ng qg sg g cdg (cxOf CX1 X.prog X.w X.K X.mg X.base N1 q1 sg1 g1 cdg1 X.A X.stack s H E1).nox.A (cxOf CX1 X.prog X.w X.K X.mg X.base N1 q1 sg1 g1 cdg1 X.A X.stack s H E1).nox.stack s' H' Eg).tr pn xe) W) (room : Room (k + 1) ((cxOf CX1 X.prog X.w X.K X.mg X.base N1 q1 sg1 g1 cdg1 X.A X.stack s H E1).nox.A.deeper (envOfC qg sg s'.heap.objs.size g cdg))) (inside : ∀ (A : Around) (outer : List Env) (s : Shared) (H : Hp) (E : XK), Room k (A.deeper (LamX.lamEnv X scope s.heap.objs.size f c)) → PE (LamX.lamCx X A outer s H E scope f c) body (t E))
    (hN : Ng[i]? = some a) (hv : Vis sg a) (d1 : (a == ("__debug__" : Str)) = false := by decide) (d2 : (a == ("__classdict__" : Str)) = false := by decide) : PE ((cxOf CXg X.prog X.w X.K X.mg X.base Ng qg sg g cdg (cxOf CX1 X.prog X.w X.K X.mg X.base N1 q1 sg1 g1 cdg1 X.A X.stack s H E1).nox.A (cxOf CX1 X.prog X.w X.K X.mg X.base N1 q1 sg1 g1 cdg1 X.A X.stack s H E1).nox.stack s' H' Eg).tr pn xe) (.Call (.Name a p1) [] [] p2)
      (fun σZ HZ Q => ∃ E0 : XK, (∀ cls d H', E0 cls d H' → W cls d σZ H') ∧ σZ[i]? = some (some (.ref f)) ∧ HZ c = some (LamX.CodeO c (qLam X)) ∧ t E0 σ HZ Q) := by
  refine ⟨fun pinsZ sZ σZ HZ Q IZ ⟨E0, incl, slot, is, reads⟩ => wpAny_Call_Name_kw (thn ((pe_var (pos := p1) (i := i) hN hv d1 d2).run pinsZ sZ σZ HZ (fun v G => v = .ref f ∧ G = HZ) IZ ⟨.ref f, slot, rfl, rfl⟩) ?_)⟩
  rintro u s1 ⟨v, G, I1, rel, rfl, rfl⟩
  cases (show u = Value.ref f from rel)
  have un : Un (frs X.stack) [] H G s.heap s1.heap := (J.call (h' := s1.heap) (g' := s1.gens) (t' := s1.toks) (d' := s1.drawn) (ch := []) I1.base I1.hok I1.bare (fun b z => absurd z List.not_mem_nil)).base
  have there : s1.heap.get? f = some (lamO X params body scope pm c ct) := un.keep f _ at_ nf far (fun m => absurd (show f ∈ ([] : List Addr) from m) List.not_mem_nil)
  obtain ⟨⟨oc, vs, tq, o1, o2, o3⟩, _, _⟩ := I1.hok c _ is
  refine PySem.W.callWith_F0 ⟨_, _, _, _, there⟩ (wpAny_call (codeAny_mono (R := CR (L2.CX X.prog X.w) (envOfC qg sg s'.heap.objs.size g cdg :: (cxOf CX1 X.prog X.w X.K X.mg X.base N1 q1 sg1 g1 cdg1 X.A X.stack s H E1).nox.stack) X.prog X.w G s1 Q E0) ?_ fun r s2 q => ?_))
  · refine PySem.W.kla_callFunE room.depth there rfl L.co L.gen rfl ⟨c, oc, vs, tq, rfl, o1, o2, o3⟩ ?_
    refine wpAny_of_eq none_ (wpAny_newFunctionEnv (fun y hy => (L.own y hy).2) (fun y hy => absurd hy List.not_mem_nil) (fun h1 ns sub => ⟨I1.nolimit.fresh _ sub, ?_⟩) L.kind)
    have keep : ∀ b o, s1.heap.get? b = some o → h1.get? b = some o := fun b o e => sub.extBut b o (Nat.ne_of_lt (Heap.lt_size e)) (Heap.get?_push_of_some _ e)
    have J := LamX.lam_start2 (A := (cxOf CX1 X.prog X.w X.K X.mg X.base N1 q1 sg1 g1 cdg1 X.A X.stack s H E1).nox.A.deeper (envOfC qg sg s'.heap.objs.size g cdg)) (outer := envOfC qg sg s'.heap.objs.size g cdg :: (cxOf CX1 X.prog X.w X.K X.mg X.base N1 q1 sg1 g1 cdg1 X.A X.stack s H E1).nox.stack) (E := E0) (f := f) (c' := c) (tk := s1.toks) I L I1.env0 room.hd un ns keep
    show codeAny _ _ (.expr body (LamX.lamEnv X scope s1.heap.objs.size f c)) _ _
    refine PySem.W.kla_codeExpr (wpAny_mono ((inside _ _ s1 G E0 (room.deeper _)).run [] _ _ G Q J reads) ?_ fun e s2 q => q)
    rintro u s2 ⟨v, G2, J2, rv, q⟩
    exact ⟨v, G2, J2.os, J2.bare, J2.base, J2.hok, rv, q⟩
  · cases r with
    | error e => exact tk e s2 (XE.of_call I1 (fun cls d H' z => incl cls d H' z) q)
    | ok fl =>
      cases fl with
      | ret u => exact I1.after q
      | next => exact absurd q id
      | brk => exact absurd q id
      | cont => exact absurd q id
/-- x(b) in the frame of a def that got the lambda as its b: the lambda goes on to x -/
theorem pe_pass {TT : (XK → Hp → VK → Prop) → Hp → VK → Prop} {CX1 : CXT} {E1 : XK} {Ng N1 : List Str} {q1 : Str} {sg1 : Scope} {g f c g1 : Addr} {cdg1 pm ct : Value} {params : Arguments} {body : Expr} {scope : Scope} {k i : Nat} {x a b : Str} {st : Stmt} {fd : FuncData} {t : XK → TE} {p p2 pos : Pos}
    (I : Inv X pins σ H s) (L : LamX.LamS X.env.scope scope) (at_ : s.heap.get? f = some (lamO X params body scope pm c ct)) (nf : H f = none) (far : f ∉ frs X.stack)
    (none_ : bindArgs (PySem.W.kla_fn "<lambda>" (qLam X) params body scope (cloFrom X.env.cells scope.names []) pm (.ref c) ct) ⟨[], []⟩ = pure [])
    (F : Fun X.K x x st g fd) (hb : Binds X.K fd [a] []) (Sg : FnScope Ng [a] (defScope st)) (hG : ∀ cdg, ActGives (cxOf CX1 X.prog X.w X.K X.mg X.base N1 q1 sg1 g1 cdg1 X.A X.stack s H E1).nox Ng x (defScope st) g cdg (defBody st) a (qLam X) TT)
    (hr : Room (k + 2) (cxOf CX1 X.prog X.w X.K X.mg X.base N1 q1 sg1 g1 cdg1 X.A X.stack s H E1).nox.A) (hm : X.mg x = some (.ref g))
    (hbody : ∀ (A : Around) (outer : List Env) (s : Shared) (H : Hp) (E : XK), Room k (A.deeper (LamX.lamEnv X scope s.heap.objs.size f c)) → PE (LamX.lamCx X A outer s H E scope f c) body (t E))
    (hi : N1[i]? = some b) (hvb : Vis sg1 b) (hg : Gl (cxOf CX1 X.prog X.w X.K X.mg X.base N1 q1 sg1 g1 cdg1 X.A X.stack s H E1).nox x) (hN : Ng[0]? = some a) (hv : Vis (defScope st) a)
    (d1 : (x == ("__debug__" : Str)) = false := by decide) (d2 : (a == ("__debug__" : Str)) = false := by decide) (d3 : (a == ("__classdict__" : Str)) = false := by decide) (d4 : (b == ("__debug__" : Str)) = false := by decide) (d5 : (b == ("__classdict__" : Str)) = false := by decide)
    (he : starEach [.Name b p2] (cxOf CX1 X.prog X.w X.K X.mg X.base N1 q1 sg1 g1 cdg1 X.A X.stack s H E1).nox.env = (false, eval (.Name b p2) (cxOf CX1 X.prog X.w X.K X.mg X.base N1 q1 sg1 g1 cdg1 X.A X.stack s H E1).nox.env) :: starEach [] (cxOf CX1 X.prog X.w X.K X.mg X.base N1 q1 sg1 g1 cdg1 X.A X.stack s H E1).nox.env := by rfl) :
    PE (cxOf CX1 X.prog X.w X.K X.mg X.base N1 q1 sg1 g1 cdg1 X.A X.stack s H E1).nox (.Call (.Name x p) [.Name b p2] [] pos) (fun σY HY Q => σY[i]? = some (some (.ref f)) ∧ HY c = some (LamX.CodeO c (qLam X)) ∧ TT (fun E H' Q' => t E σ H' Q') HY Q) := by
  obtain ⟨oc, od, kV, doc, pm', an, cdv, ct', osl, rfl, lk, cd⟩ := F.ex
  refine ⟨fun pinsY sY σY HY Q J ⟨slot, is, h⟩ => ?_⟩
  refine wpAny_Call_Name_kw (ld_glob J hg hm (PySem.W.callWith_K (h₀ := X.base) J.ok.mod.kin F.kp ?_ (by rfl) (by rfl)) d1)
  show wpAny _ _ (spliced ((false, eval (.Name b p2) (cxOf CX1 X.prog X.w X.K X.mg X.base N1 q1 sg1 g1 cdg1 X.A X.stack s H E1).nox.env) :: backTo pos (starEach [] (cxOf CX1 X.prog X.w X.K X.mg X.base N1 q1 sg1 g1 cdg1 X.A X.stack s H E1).nox.env))) _ _ sY
  refine Calls.spliced_cons (thn ((pe_var (pos := p2) (i := i) hi hvb d4 d5).run pinsY sY σY HY (fun v G => v = .ref f ∧ G = HY) J ⟨.ref f, slot, rfl, rfl⟩) ?_)
  rintro u s1 ⟨v, G, J1, rel, rfl, rfl⟩
  cases (show u = Value.ref f from rel)
  refine Calls.spliced_nil ⟨J1.kIn, ?_⟩
  refine wpAny_call (codeAny_mono (LamX.run_ofS (CX := C8.CX0) (Q := Q) (E := C8.E0) (N := Ng) (ps := [a]) (us := [.ref f]) (vs := [.ref f]) lk cd Sg hr J1.env0 (hb s1 [.ref f] J1.kIn rfl) (.cons rfl .nil) rfl fun hr1 => ?_) fun r s2 q => ?_)
  · obtain ⟨t1, h1, h2⟩ := hG cdv f c s1 G Q (fun E H' Q' => t E σ H' Q') (fun W pn xe p1 p2 tk => pe_actS2 (i := 0) (t := t) I L at_ nf far none_ J1 tk hr1 (fun A outer s H E hr2 => hbody A outer s H E hr2) hN hv d2 d3) is h
    exact ⟨t1, h1.nox, h2⟩
  · cases r with
    | error e => exact absurd q id
    | ok fl =>
      cases fl with
      | ret u => exact J1.after q
      | next => exact absurd q id
      | brk => exact absurd q id
      | cont => exact absurd q id
/-- a def of four parameters that hands its last one, a lambda, on to y: TT, what it makes of three values and of what y makes of the lambda's reading (TG) -/
def ActPasses (X : Cx) (Ng : List Str) (x : Str) (sg : Scope) (g : Addr) (cdg : Value) (bg : List Stmt) (y b : Str) (q : Str) (kk : Nat) (TG : (XK → Hp → VK → Prop) → Hp → VK → Prop) (TT : V → V → V → (XK → Hp → VK → Prop) → Hp → VK → Prop) : Prop :=
  ∀ (v1 v2 v3 : V) (f c : Addr) (s : Shared) (H : Hp) (Q : VK) (tl : XK → Hp → VK → Prop), Room kk (cxOf C8.CX0 X.prog X.w X.K X.mg X.base Ng x sg g cdg X.A X.stack s H C8.E0).nox.A → (∀ (p1 p2 p3 : Pos), PE (cxOf C8.CX0 X.prog X.w X.K X.mg X.base Ng x sg g cdg X.A X.stack s H C8.E0).nox (.Call (.Name y p1) [.Name b p2] [] p3) (fun σY HY Q => σY[3]? = some (some (.ref f)) ∧ HY c = some (LamX.CodeO c q) ∧ TG tl HY Q)) →
    H c = some (LamX.CodeO c q) → TT v1 v2 v3 tl H Q → ∃ t, PSs (cxOf C8.CX0 X.prog X.w X.K X.mg X.base Ng x sg g cdg X.A X.stack s H C8.E0).nox bg t ∧ t { nx := fun _ H' => Q .non H', rt := Q } (L2.start Ng [v1, v2, v3, .ref f]) H
def tLam4 [Tabl] (t1 t2 t3 : TE) (TT : V → V → V → (XK → Hp → VK → Prop) → Hp → VK → Prop) (t : XK → TE) : TE := fun σ H Q => t1 σ H fun v1 H1 => t2 σ H1 fun v2 H2 => t3 σ H2 fun v3 H3 => Good H3 ∧ ∀ H4, Same H3 H4 → TT v1 v2 v3 (fun E H' Q' => t E σ H' Q') H4 Q
/-- x(e1, e2, e3, lambda: body) -/
theorem pe_lam4 [Tabl] {TG : (XK → Hp → VK → Prop) → Hp → VK → Prop} {TT : V → V → V → (XK → Hp → VK → Prop) → Hp → VK → Prop} {x y a1 a2 a3 a4 ya : Str} {g c P gy : Addr} {k : Nat} {st sty : Stmt} {fd fdy : FuncData} {Ng Ny : List Str} {params : Arguments} {body e1 e2 e3 : Expr} {t1 t2 t3 : TE} {scope : Scope} {t : XK → TE} {p lpos pos : Pos}
    (F : Fun X.K x x st g fd) (hb : Binds X.K fd [a1, a2, a3, a4] []) (Sg : FnScope Ng [a1, a2, a3, a4] (defScope st)) (hG : ∀ cdg, ActPasses X Ng x (defScope st) g cdg (defBody st) y a4 (qLam X) (k + 2) TG TT)
    (Fy : Fun X.K y y sty gy fdy) (hby : Binds X.K fdy [ya] []) (Sy : FnScope Ny [ya] (defScope sty)) (hGy : ∀ (cdg : Value) (s : Shared) (H : Hp) (cdy : Value), ActGives (cxOf C8.CX0 X.prog X.w X.K X.mg X.base Ng x (defScope st) g cdg X.A X.stack s H C8.E0).nox Ny y (defScope sty) gy cdy (defBody sty) ya (qLam X) TG) (hmy : X.mg y = some (.ref gy))
    (TB : LamX.TabB X.base X.mg c P) (mem : (P, qLam X) ∈ Tabl.T) (code : X.env.code = .ref c) (hr : Room (k + 3) X.A) (L : LamX.LamS X.env.scope scope) (hm : X.mg x = some (.ref g))
    (hbody : ∀ (A : Around) (outer : List Env) (s : Shared) (H : Hp) (E : XK) (f c' : Addr), Room k (A.deeper (LamX.lamEnv X scope s.heap.objs.size f c')) → PE (LamX.lamCx X A outer s H E scope f c') body (t E))
    (h1 : PE X e1 t1) (h2 : PE X e2 t2) (h3 : PE X e3 t3)
    (hN : Ng[3]? = some a4 := by rfl) (hv : Vis (defScope st) a4 := by first | exact Or.inl rfl | exact Or.inr (Or.inl rfl)) (hNy : Ny[0]? = some ya := by rfl) (hvy : Vis (defScope sty) ya := by first | exact Or.inl rfl | exact Or.inr (Or.inl rfl))
    (hgy : ∀ (cdg : Value) (s : Shared) (H : Hp), Gl (cxOf C8.CX0 X.prog X.w X.K X.mg X.base Ng x (defScope st) g cdg X.A X.stack s H C8.E0).nox y := by intros; rfl)
    (hg : Gl X x := by rfl) (plain : defaultsOf params X.env = ([], []) := by rfl) (hbind : ∀ (q : Str) (cl : List (Str × Addr)) (pm cv ctv : Value), bindArgs (PySem.W.kla_fn "<lambda>" q params body scope cl pm cv ctv) ⟨[], []⟩ = pure [] := by intros; rfl)
    (d1 : (x == ("__debug__" : Str)) = false := by decide) (d2 : (a4 == ("__debug__" : Str)) = false := by decide) (d3 : (a4 == ("__classdict__" : Str)) = false := by decide)
    (d4 : (y == ("__debug__" : Str)) = false := by decide) (d5 : (ya == ("__debug__" : Str)) = false := by decide) (d6 : (ya == ("__classdict__" : Str)) = false := by decide)
    (he : starEach [e1, e2, e3, .Lambda params body scope lpos] X.env = (false, eval e1 X.env) :: starEach [e2, e3, .Lambda params body scope lpos] X.env := by rfl) (he' : starEach [e2, e3, .Lambda params body scope lpos] X.env = [(false, eval e2 X.env), (false, eval e3 X.env), (false, eval (.Lambda params body scope lpos) X.env)] := by rfl) :
    PE X (.Call (.Name x p) [e1, e2, e3, .Lambda params body scope lpos] [] pos) (tLam4 t1 t2 t3 TT t) := by
  obtain ⟨oc, od, kV, doc, pm, an, cdv, ct, osl, rfl, lk, cd⟩ := F.ex
  refine ⟨fun pins s σ H Q I h => ?_⟩
  refine wpAny_Call_Name_kw (ld_glob I hg hm (PySem.W.callWith_K (h₀ := X.base) I.ok.mod.kin F.kp ?_ he (by rw [he']; rfl)) d1)
  rw [he, he']
  show wpAny _ _ (spliced [(false, eval e1 X.env), (false, eval e2 X.env), (false, eval e3 X.env), (false, eval (.Lambda params body scope lpos) X.env)]) _ _ s
  refine Calls.spliced_cons (thn (h1.run pins s σ H _ I h) fun u1 s1 ⟨v1, H1, I1, r1, h⟩ => ?_)
  refine Calls.spliced_cons (thn (h2.run pins s1 σ H1 _ I1 h) fun u2 s2 ⟨v2, H2, I2, r2, h⟩ => ?_)
  refine Calls.spliced_cons (thn (h3.run pins s2 σ H2 _ I2 h) fun u3 s3 ⟨v3, H3, I3, r3, h⟩ => ?_)
  obtain ⟨good, h⟩ := h
  refine Calls.spliced_cons (lam_made I3 TB code mem good L plain fun f c' pm1 ct1 H4 s4 I4 sm at_ nf far is => Calls.spliced_nil ⟨I4.kIn, ?_⟩)
  refine wpAny_call (codeAny_mono (LamX.run_ofS (CX := C8.CX0) (Q := Q) (E := C8.E0) (N := Ng) (ps := [a1, a2, a3, a4]) (us := [u1, u2, u3, .ref f]) (vs := [v1, v2, v3, .ref f]) lk cd Sg hr I4.env0 (hb s4 [u1, u2, u3, .ref f] I4.kIn rfl) (.cons r1 (.cons r2 (.cons r3 (.cons rfl .nil)))) rfl fun hr1 => ?_) fun r s5 q => ?_)
  · obtain ⟨tt, g1, g2⟩ := hG cdv v1 v2 v3 f c' s4 H4 Q (fun E H' Q' => t E σ H' Q') hr1 (fun p1 p2 p3 => pe_pass I4 L at_ nf far (hbind _ _ _ _ _) Fy hby Sy (hGy cdv s4 H4) hr1 hmy (fun A outer s H E hr2 => hbody A outer s H E f c' hr2) hN hv (hgy _ _ _) hNy hvy d4 d5 d6 d2 d3) is (h H4 sm)
    exact ⟨tt, g1.nox, g2⟩
  · cases r with
    | error e => exact absurd q id
    | ok fl =>
      cases fl with
      | ret u => exact I4.after q
      | next => exact absurd q id
      | brk => exact absurd q id
      | cont => exact absurd q id
end
end Lb

namespace Lb
open PySem PySem.Spec PyProof.Rows L2
def topS (i : Nat) : Stmt := PySem.Challenge.pw_lagbound_k03_checkers.main.body.getD i (.Pass ⟨0, 0, 0, 0⟩)
abbrev s_is_whole : Stmt := topS 1
theorem sc_is_whole : FnScope ["value"] ["value"] (defScope s_is_whole) := ⟨rfl, rfl, rfl, by decide +kernel, rfl, by decide +kernel, by decide +kernel⟩
abbrev s_in_range : Stmt := topS 2
theorem sc_in_range : FnScope ["value", "low", "high"] ["value", "low", "high"] (defScope s_in_range) := ⟨rfl, rfl, rfl, by decide +kernel, rfl, by decide +kernel, by decide +kernel⟩
abbrev s_check_number : Stmt := topS 14
theorem sc_check_number : FnScope ["value", "low", "high"] ["value", "low", "high"] (defScope s_check_number) := ⟨rfl, rfl, rfl, by decide +kernel, rfl, by decide +kernel, by decide +kernel⟩
abbrev s_is_letters : Stmt := topS 22
theorem sc_is_letters : FnScope ["value"] ["value"] (defScope s_is_letters) := ⟨rfl, rfl, rfl, by decide +kernel, rfl, by decide +kernel, by decide +kernel⟩
abbrev s_is_word : Stmt := topS 23
theorem sc_is_word : FnScope ["letters", "value"] ["letters", "value"] (defScope s_is_word) := ⟨rfl, rfl, rfl, by decide +kernel, rfl, by decide +kernel, by decide +kernel⟩
abbrev s_is_word_up_to : Stmt := topS 24
theorem sc_is_word_up_to : FnScope ["letters", "value", "most"] ["letters", "value", "most"] (defScope s_is_word_up_to) := ⟨rfl, rfl, rfl, by decide +kernel, rfl, by decide +kernel, by decide +kernel⟩
abbrev s_is_name : Stmt := topS 25
theorem sc_is_name : FnScope ["value"] ["value"] (defScope s_is_name) := ⟨rfl, rfl, rfl, by decide +kernel, rfl, by decide +kernel, by decide +kernel⟩
abbrev s_check_letters : Stmt := topS 26
theorem sc_check_letters : FnScope ["letters"] ["letters"] (defScope s_check_letters) := ⟨rfl, rfl, rfl, by decide +kernel, rfl, by decide +kernel, by decide +kernel⟩
abbrev s_check_word : Stmt := topS 27
theorem sc_check_word : FnScope ["letters", "word"] ["letters", "word"] (defScope s_check_word) := ⟨rfl, rfl, rfl, by decide +kernel, rfl, by decide +kernel, by decide +kernel⟩
abbrev s_check_name : Stmt := topS 28
theorem sc_check_name : FnScope ["name"] ["name"] (defScope s_check_name) := ⟨rfl, rfl, rfl, by decide +kernel, rfl, by decide +kernel, by decide +kernel⟩
abbrev s_all_words : Stmt := topS 29
theorem sc_all_words : FnScope ["letters", "most", "words", "longest", "_", "word", "letter"] ["letters", "most"] (defScope s_all_words) := ⟨rfl, rfl, rfl, by decide +kernel, rfl, by decide +kernel, by decide +kernel⟩
abbrev s_word_index : Stmt := topS 30
theorem sc_word_index : FnScope ["letters", "word", "index", "letter"] ["letters", "word"] (defScope s_word_index) := ⟨rfl, rfl, rfl, by decide +kernel, rfl, by decide +kernel, by decide +kernel⟩
abbrev s_word_at : Stmt := topS 31
theorem sc_word_at : FnScope ["letters", "index", "backwards", "rest", "digit"] ["letters", "index"] (defScope s_word_at) := ⟨rfl, rfl, rfl, by decide +kernel, rfl, by decide +kernel, by decide +kernel⟩
abbrev s_shown_word : Stmt := topS 32
theorem sc_shown_word : FnScope ["letters", "text", "most"] ["letters", "text", "most"] (defScope s_shown_word) := ⟨rfl, rfl, rfl, by decide +kernel, rfl, by decide +kernel, by decide +kernel⟩
abbrev s_read_shown : Stmt := topS 33
theorem sc_read_shown : FnScope ["letters", "text", "word"] ["letters", "text"] (defScope s_read_shown) := ⟨rfl, rfl, rfl, by decide +kernel, rfl, by decide +kernel, by decide +kernel⟩
abbrev s_mix : Stmt := topS 35
theorem sc_mix : FnScope ["number", "tick", "one", "two"] ["number", "tick"] (defScope s_mix) := ⟨rfl, rfl, rfl, by decide +kernel, rfl, by decide +kernel, by decide +kernel⟩
abbrev s_store : Stmt := topS 36
theorem sc_store : FnScope ["script", "seed", "cell"] ["script"] (defScope s_store) := ⟨rfl, rfl, rfl, by decide +kernel, rfl, by decide +kernel, by decide +kernel⟩
abbrev s_take : Stmt := topS 37
theorem sc_take : FnScope ["store", "many", "cells", "cell", "digit"] ["store", "many"] (defScope s_take) := ⟨rfl, rfl, rfl, by decide +kernel, rfl, by decide +kernel, by decide +kernel⟩
abbrev s_pick : Stmt := topS 38
theorem sc_pick : FnScope ["store", "row"] ["store", "row"] (defScope s_pick) := ⟨rfl, rfl, rfl, by decide +kernel, rfl, by decide +kernel, by decide +kernel⟩
abbrev s_between : Stmt := topS 39
theorem sc_between : FnScope ["store", "low", "high", "draw"] ["store", "low", "high"] (defScope s_between) := ⟨rfl, rfl, rfl, by decide +kernel, rfl, by decide +kernel, by decide +kernel⟩
abbrev s_big : Stmt := topS 40
theorem sc_big : FnScope ["store", "draw", "number", "k"] ["store"] (defScope s_big) := ⟨rfl, rfl, rfl, by decide +kernel, rfl, by decide +kernel, by decide +kernel⟩
abbrev s_worn : Stmt := topS 41
theorem sc_worn : FnScope ["store", "row"] ["store", "row"] (defScope s_worn) := ⟨rfl, rfl, rfl, by decide +kernel, rfl, by decide +kernel, by decide +kernel⟩
abbrev s_no_text : Stmt := topS 42
theorem sc_no_text : FnScope ["store", "draw"] ["store"] (defScope s_no_text) := ⟨rfl, rfl, rfl, by decide +kernel, rfl, by decide +kernel, by decide +kernel⟩
abbrev s_not_number : Stmt := topS 43
theorem sc_not_number : FnScope ["store", "low", "high", "draw"] ["store", "low", "high"] (defScope s_not_number) := ⟨rfl, rfl, rfl, by decide +kernel, rfl, by decide +kernel, by decide +kernel⟩
abbrev s_letters : Stmt := topS 44
theorem sc_letters : FnScope ["store", "limit", "size", "every", "draw", "at", "word", "k"] ["store", "limit"] (defScope s_letters) := ⟨rfl, rfl, rfl, by decide +kernel, rfl, by decide +kernel, by decide +kernel⟩
abbrev s_stranger : Stmt := topS 45
theorem sc_stranger : FnScope ["store", "letters", "x"] ["store", "letters"] (defScope s_stranger) := ⟨rfl, rfl, rfl, by decide +kernel, rfl, by decide +kernel, by decide +kernel⟩
abbrev s_not_letters : Stmt := topS 46
theorem sc_not_letters : FnScope ["store", "good", "at", "draw", "x"] ["store"] (defScope s_not_letters) := ⟨rfl, rfl, rfl, by decide +kernel, rfl, by decide +kernel, by decide +kernel⟩
abbrev s_word : Stmt := topS 47
theorem sc_word : FnScope ["store", "letters", "limit", "draw", "size", "k"] ["store", "letters", "limit"] (defScope s_word) := ⟨rfl, rfl, rfl, by decide +kernel, rfl, by decide +kernel, by decide +kernel⟩
abbrev s_long_word : Stmt := topS 48
theorem sc_long_word : FnScope ["store", "letters", "size", "piece", "word", "at"] ["store", "letters", "size"] (defScope s_long_word) := ⟨rfl, rfl, rfl, by decide +kernel, rfl, by decide +kernel, by decide +kernel⟩
abbrev s_not_word : Stmt := topS 49
theorem sc_not_word : FnScope ["store", "letters", "good", "at", "draw", "x"] ["store", "letters"] (defScope s_not_word) := ⟨rfl, rfl, rfl, by decide +kernel, rfl, by decide +kernel, by decide +kernel⟩
abbrev s_not_read : Stmt := topS 50
theorem sc_not_read : FnScope ["store", "letters"] ["store", "letters"] (defScope s_not_read) := ⟨rfl, rfl, rfl, by decide +kernel, rfl, by decide +kernel, by decide +kernel⟩
abbrev s_name : Stmt := topS 51
theorem sc_name : FnScope ["store", "rest", "size", "k"] ["store"] (defScope s_name) := ⟨rfl, rfl, rfl, by decide +kernel, rfl, by decide +kernel, by decide +kernel⟩
abbrev s_not_name : Stmt := topS 52
theorem sc_not_name : FnScope ["store", "good", "at", "draw"] ["store"] (defScope s_not_name) := ⟨rfl, rfl, rfl, by decide +kernel, rfl, by decide +kernel, by decide +kernel⟩
abbrev s_same : Stmt := topS 53
theorem sc_same : FnScope ["actual", "expected", "k"] ["actual", "expected"] (defScope s_same) := ⟨rfl, rfl, rfl, by decide +kernel, rfl, by decide +kernel, by decide +kernel⟩
abbrev s_copy : Stmt := topS 54
theorem sc_copy : FnScope ["value", "item"] ["value"] (defScope s_copy) := ⟨rfl, rfl, rfl, by decide +kernel, rfl, by decide +kernel, by decide +kernel⟩
abbrev s_is_integer : Stmt := topS 55
theorem sc_is_integer : FnScope ["value"] ["value"] (defScope s_is_integer) := ⟨rfl, rfl, rfl, by decide +kernel, rfl, by decide +kernel, by decide +kernel⟩
abbrev s_lw_is_word : Stmt := topS 56
theorem sc_lw_is_word : FnScope ["letters", "value", "letter"] ["letters", "value"] (defScope s_lw_is_word) := ⟨rfl, rfl, rfl, by decide +kernel, rfl, by decide +kernel, by decide +kernel⟩
abbrev s_any : Stmt := topS 57
theorem sc_any : FnScope ["store", "value", "k"] ["store"] (defScope s_any) := ⟨rfl, rfl, rfl, by decide +kernel, rfl, by decide +kernel, by decide +kernel⟩
abbrev s_gave : Stmt := topS 58
theorem sc_gave : FnScope ["action", "told", "e"] ["action"] (defScope s_gave) := ⟨rfl, rfl, rfl, by decide +kernel, rfl, by decide +kernel, by decide +kernel⟩
abbrev s_good_letters : Stmt := topS 59
theorem sc_good_letters : FnScope ["value", "last", "sign", "place"] ["value"] (defScope s_good_letters) := ⟨rfl, rfl, rfl, by decide +kernel, rfl, by decide +kernel, by decide +kernel⟩
abbrev s_good_name : Stmt := topS 60
theorem sc_good_name : FnScope ["value", "every", "k"] ["value"] (defScope s_good_name) := ⟨rfl, rfl, rfl, by decide +kernel, rfl, by decide +kernel, by decide +kernel⟩
abbrev s_word_due : Stmt := topS 61
theorem sc_word_due : FnScope ["letters", "value"] ["letters", "value"] (defScope s_word_due) := ⟨rfl, rfl, rfl, by decide +kernel, rfl, by decide +kernel, by decide +kernel⟩
abbrev s_words_checked : Stmt := topS 62
theorem sc_words_checked : FnScope ["letters", "value", "due", "good", "told", "right"] ["letters", "value"] (defScope s_words_checked) := ⟨rfl, rfl, rfl, by decide +kernel, rfl, by decide +kernel, by decide +kernel⟩
abbrev s_numbers_checked : Stmt := topS 63
theorem sc_numbers_checked : FnScope ["letters", "number", "due", "late", "row", "x"] ["letters", "number"] (defScope s_numbers_checked) := ⟨rfl, rfl, rfl, by decide +kernel, rfl, by decide +kernel, by decide +kernel⟩
abbrev s_one_checked : Stmt := topS 64
theorem sc_one_checked : FnScope ["value", "good", "error", "action", "due"] ["value", "good", "error", "action"] (defScope s_one_checked) := ⟨rfl, rfl, rfl, by decide +kernel, rfl, by decide +kernel, by decide +kernel⟩
abbrev s_word_values : Stmt := topS 65
theorem sc_word_values : FnScope ["store", "letters", "row"] ["store", "letters"] (defScope s_word_values) := ⟨rfl, rfl, rfl, by decide +kernel, rfl, by decide +kernel, by decide +kernel⟩
abbrev s_law : Stmt := topS 66
theorem sc_law : FnScope ["script", "store", "letters", "bad", "values", "names", "kept", "name", "value"] ["script"] (defScope s_law) := ⟨rfl, rfl, rfl, by decide +kernel, rfl, by decide +kernel, by decide +kernel⟩
abbrev si_BadLetters : Stmt := inCls (topS 5) 0
theorem sci_BadLetters : FnScope ["self", "value"] ["self", "value"] (defScope si_BadLetters) := ⟨rfl, rfl, rfl, by decide +kernel, rfl, by decide +kernel, by decide +kernel⟩
abbrev si_BadWord : Stmt := inCls (topS 6) 0
theorem sci_BadWord : FnScope ["self", "value"] ["self", "value"] (defScope si_BadWord) := ⟨rfl, rfl, rfl, by decide +kernel, rfl, by decide +kernel, by decide +kernel⟩
abbrev si_BadNumber : Stmt := inCls (topS 7) 0
theorem sci_BadNumber : FnScope ["self", "value"] ["self", "value"] (defScope si_BadNumber) := ⟨rfl, rfl, rfl, by decide +kernel, rfl, by decide +kernel, by decide +kernel⟩
abbrev si_BadName : Stmt := inCls (topS 8) 0
theorem sci_BadName : FnScope ["self", "value"] ["self", "value"] (defScope si_BadName) := ⟨rfl, rfl, rfl, by decide +kernel, rfl, by decide +kernel, by decide +kernel⟩
abbrev si_BadEntry : Stmt := inCls (topS 9) 0
theorem sci_BadEntry : FnScope ["self", "place", "index"] ["self", "place", "index"] (defScope si_BadEntry) := ⟨rfl, rfl, rfl, by decide +kernel, rfl, by decide +kernel, by decide +kernel⟩
abbrev si_BadLine : Stmt := inCls (topS 10) 0
theorem sci_BadLine : FnScope ["self", "line", "place"] ["self", "line", "place"] (defScope si_BadLine) := ⟨rfl, rfl, rfl, by decide +kernel, rfl, by decide +kernel, by decide +kernel⟩
abbrev si_TooLarge : Stmt := inCls (topS 12) 0
theorem sci_TooLarge : FnScope ["self", "what", "limit"] ["self", "what", "limit"] (defScope si_TooLarge) := ⟨rfl, rfl, rfl, by decide +kernel, rfl, by decide +kernel, by decide +kernel⟩
structure Txt [Tabl] (K : PySem.W.Frag) (mg : Str → Option Value) (base : Heap) where
  f_is_whole : Addr
  fd_is_whole : FuncData
  F_is_whole : Fun K "is_whole" "is_whole" s_is_whole f_is_whole fd_is_whole
  b_is_whole : Binds K fd_is_whole ["value"] []
  g_is_whole : mg "is_whole" = some (.ref f_is_whole)
  f_in_range : Addr
  fd_in_range : FuncData
  F_in_range : Fun K "in_range" "in_range" s_in_range f_in_range fd_in_range
  b_in_range : Binds K fd_in_range ["value", "low", "high"] []
  g_in_range : mg "in_range" = some (.ref f_in_range)
  f_check_number : Addr
  fd_check_number : FuncData
  F_check_number : Fun K "check_number" "check_number" s_check_number f_check_number fd_check_number
  b_check_number : Binds K fd_check_number ["value", "low", "high"] []
  g_check_number : mg "check_number" = some (.ref f_check_number)
  f_is_letters : Addr
  fd_is_letters : FuncData
  C_is_letters : Addr
  P_is_letters : Addr
  F_is_letters : FunC K "is_letters" "is_letters" s_is_letters f_is_letters fd_is_letters C_is_letters
  B_is_letters : LamX.TabB base mg C_is_letters P_is_letters
  m_is_letters : (P_is_letters, (Str.ofString "is_letters" ++ ".<locals>.") ++ "<genexpr>") ∈ Tabl.T
  b_is_letters : Binds K fd_is_letters ["value"] []
  g_is_letters : mg "is_letters" = some (.ref f_is_letters)
  f_is_word : Addr
  fd_is_word : FuncData
  C_is_word : Addr
  P_is_word : Addr
  F_is_word : FunC K "is_word" "is_word" s_is_word f_is_word fd_is_word C_is_word
  B_is_word : LamX.TabB base mg C_is_word P_is_word
  m_is_word : (P_is_word, (Str.ofString "is_word" ++ ".<locals>.") ++ "<genexpr>") ∈ Tabl.T
  b_is_word : Binds K fd_is_word ["letters", "value"] []
  g_is_word : mg "is_word" = some (.ref f_is_word)
  f_is_word_up_to : Addr
  fd_is_word_up_to : FuncData
  F_is_word_up_to : Fun K "is_word_up_to" "is_word_up_to" s_is_word_up_to f_is_word_up_to fd_is_word_up_to
  b_is_word_up_to : Binds K fd_is_word_up_to ["letters", "value", "most"] []
  g_is_word_up_to : mg "is_word_up_to" = some (.ref f_is_word_up_to)
  f_is_name : Addr
  fd_is_name : FuncData
  C_is_name : Addr
  P_is_name : Addr
  F_is_name : FunC K "is_name" "is_name" s_is_name f_is_name fd_is_name C_is_name
  B_is_name : LamX.TabB base mg C_is_name P_is_name
  m_is_name : (P_is_name, (Str.ofString "is_name" ++ ".<locals>.") ++ "<genexpr>") ∈ Tabl.T
  b_is_name : Binds K fd_is_name ["value"] []
  g_is_name : mg "is_name" = some (.ref f_is_name)
  f_check_letters : Addr
  fd_check_letters : FuncData
  F_check_letters : Fun K "check_letters" "check_letters" s_check_letters f_check_letters fd_check_letters
  b_check_letters : Binds K fd_check_letters ["letters"] []
  g_check_letters : mg "check_letters" = some (.ref f_check_letters)
  f_check_word : Addr
  fd_check_word : FuncData
  F_check_word : Fun K "check_word" "check_word" s_check_word f_check_word fd_check_word
  b_check_word : Binds K fd_check_word ["letters", "word"] []
  g_check_word : mg "check_word" = some (.ref f_check_word)
  f_check_name : Addr
  fd_check_name : FuncData
  F_check_name : Fun K "check_name" "check_name" s_check_name f_check_name fd_check_name
  b_check_name : Binds K fd_check_name ["name"] []
  g_check_name : mg "check_name" = some (.ref f_check_name)
  f_all_words : Addr
  fd_all_words : FuncData
  F_all_words : Fun K "all_words" "all_words" s_all_words f_all_words fd_all_words
  b_all_words : Binds K fd_all_words ["letters", "most"] []
  g_all_words : mg "all_words" = some (.ref f_all_words)
  f_word_index : Addr
  fd_word_index : FuncData
  F_word_index : Fun K "word_index" "word_index" s_word_index f_word_index fd_word_index
  b_word_index : Binds K fd_word_index ["letters", "word"] []
  g_word_index : mg "word_index" = some (.ref f_word_index)
  f_word_at : Addr
  fd_word_at : FuncData
  F_word_at : Fun K "word_at" "word_at" s_word_at f_word_at fd_word_at
  b_word_at : Binds K fd_word_at ["letters", "index"] []
  g_word_at : mg "word_at" = some (.ref f_word_at)
  f_shown_word : Addr
  fd_shown_word : FuncData
  F_shown_word : Fun K "shown_word" "shown_word" s_shown_word f_shown_word fd_shown_word
  b_shown_word : Binds K fd_shown_word ["letters", "text", "most"] []
  g_shown_word : mg "shown_word" = some (.ref f_shown_word)
  f_read_shown : Addr
  fd_read_shown : FuncData
  F_read_shown : Fun K "read_shown" "read_shown" s_read_shown f_read_shown fd_read_shown
  b_read_shown : Binds K fd_read_shown ["letters", "text"] []
  g_read_shown : mg "read_shown" = some (.ref f_read_shown)
  f_mix : Addr
  fd_mix : FuncData
  F_mix : Fun K "_law_mix" "_law_mix" s_mix f_mix fd_mix
  b_mix : Binds K fd_mix ["number", "tick"] []
  g_mix : mg "_law_mix" = some (.ref f_mix)
  f_store : Addr
  fd_store : FuncData
  F_store : Fun K "_law_store" "_law_store" s_store f_store fd_store
  b_store : Binds K fd_store ["script"] []
  g_store : mg "_law_store" = some (.ref f_store)
  f_take : Addr
  fd_take : FuncData
  F_take : Fun K "_law_take" "_law_take" s_take f_take fd_take
  b_take : Binds K fd_take ["store", "many"] []
  g_take : mg "_law_take" = some (.ref f_take)
  f_pick : Addr
  fd_pick : FuncData
  F_pick : Fun K "_law_pick" "_law_pick" s_pick f_pick fd_pick
  b_pick : Binds K fd_pick ["store", "row"] []
  g_pick : mg "_law_pick" = some (.ref f_pick)
  f_between : Addr
  fd_between : FuncData
  F_between : Fun K "_law_between" "_law_between" s_between f_between fd_between
  b_between : Binds K fd_between ["store", "low", "high"] []
  g_between : mg "_law_between" = some (.ref f_between)
  f_big : Addr
  fd_big : FuncData
  F_big : Fun K "_law_big" "_law_big" s_big f_big fd_big
  b_big : Binds K fd_big ["store"] []
  g_big : mg "_law_big" = some (.ref f_big)
  f_worn : Addr
  fd_worn : FuncData
  F_worn : Fun K "_law_worn" "_law_worn" s_worn f_worn fd_worn
  b_worn : Binds K fd_worn ["store", "row"] []
  g_worn : mg "_law_worn" = some (.ref f_worn)
  f_no_text : Addr
  fd_no_text : FuncData
  F_no_text : Fun K "_law_no_text" "_law_no_text" s_no_text f_no_text fd_no_text
  b_no_text : Binds K fd_no_text ["store"] []
  g_no_text : mg "_law_no_text" = some (.ref f_no_text)
  f_not_number : Addr
  fd_not_number : FuncData
  F_not_number : Fun K "_law_not_number" "_law_not_number" s_not_number f_not_number fd_not_number
  b_not_number : Binds K fd_not_number ["store", "low", "high"] []
  g_not_number : mg "_law_not_number" = some (.ref f_not_number)
  f_letters : Addr
  fd_letters : FuncData
  F_letters : Fun K "_law_letters" "_law_letters" s_letters f_letters fd_letters
  b_letters : Binds K fd_letters ["store", "limit"] []
  g_letters : mg "_law_letters" = some (.ref f_letters)
  f_stranger : Addr
  fd_stranger : FuncData
  F_stranger : Fun K "_law_stranger" "_law_stranger" s_stranger f_stranger fd_stranger
  b_stranger : Binds K fd_stranger ["store", "letters"] []
  g_stranger : mg "_law_stranger" = some (.ref f_stranger)
  f_not_letters : Addr
  fd_not_letters : FuncData
  F_not_letters : Fun K "_law_not_letters" "_law_not_letters" s_not_letters f_not_letters fd_not_letters
  b_not_letters : Binds K fd_not_letters ["store"] []
  g_not_letters : mg "_law_not_letters" = some (.ref f_not_letters)
  f_word : Addr
  fd_word : FuncData
  F_word : Fun K "_law_word" "_law_word" s_word f_word fd_word
  b_word : Binds K fd_word ["store", "letters", "limit"] []
  g_word : mg "_law_word" = some (.ref f_word)
  f_long_word : Addr
  fd_long_word : FuncData
  F_long_word : Fun K "_law_long_word" "_law_long_word" s_long_word f_long_word fd_long_word
  b_long_word : Binds K fd_long_word ["store", "letters", "size"] []
  g_long_word : mg "_law_long_word" = some (.ref f_long_word)
  f_not_word : Addr
  fd_not_word : FuncData
  F_not_word : Fun K "_law_not_word" "_law_not_word" s_not_word f_not_word fd_not_word
  b_not_word : Binds K fd_not_word ["store", "letters"] []
  g_not_word : mg "_law_not_word" = some (.ref f_not_word)
  f_not_read : Addr
  fd_not_read : FuncData
  F_not_read : Fun K "_law_not_read" "_law_not_read" s_not_read f_not_read fd_not_read
  b_not_read : Binds K fd_not_read ["store", "letters"] []
  g_not_read : mg "_law_not_read" = some (.ref f_not_read)
  f_name : Addr
  fd_name : FuncData
  F_name : Fun K "_law_name" "_law_name" s_name f_name fd_name
  b_name : Binds K fd_name ["store"] []
  g_name : mg "_law_name" = some (.ref f_name)
  f_not_name : Addr
  fd_not_name : FuncData
  F_not_name : Fun K "_law_not_name" "_law_not_name" s_not_name f_not_name fd_not_name
  b_not_name : Binds K fd_not_name ["store"] []
  g_not_name : mg "_law_not_name" = some (.ref f_not_name)
  f_same : Addr
  fd_same : FuncData
  F_same : Fun K "_law_same" "_law_same" s_same f_same fd_same
  b_same : Binds K fd_same ["actual", "expected"] []
  g_same : mg "_law_same" = some (.ref f_same)
  f_copy : Addr
  fd_copy : FuncData
  F_copy : Fun K "_law_copy" "_law_copy" s_copy f_copy fd_copy
  b_copy : Binds K fd_copy ["value"] []
  g_copy : mg "_law_copy" = some (.ref f_copy)
  f_is_integer : Addr
  fd_is_integer : FuncData
  F_is_integer : Fun K "_law_is_integer" "_law_is_integer" s_is_integer f_is_integer fd_is_integer
  b_is_integer : Binds K fd_is_integer ["value"] []
  g_is_integer : mg "_law_is_integer" = some (.ref f_is_integer)
  f_lw_is_word : Addr
  fd_lw_is_word : FuncData
  F_lw_is_word : Fun K "_law_is_word" "_law_is_word" s_lw_is_word f_lw_is_word fd_lw_is_word
  b_lw_is_word : Binds K fd_lw_is_word ["letters", "value"] []
  g_lw_is_word : mg "_law_is_word" = some (.ref f_lw_is_word)
  f_any : Addr
  fd_any : FuncData
  F_any : Fun K "_law_any" "_law_any" s_any f_any fd_any
  b_any : Binds K fd_any ["store"] []
  g_any : mg "_law_any" = some (.ref f_any)
  f_gave : Addr
  fd_gave : FuncData
  F_gave : Fun K "_law_gave" "_law_gave" s_gave f_gave fd_gave
  b_gave : Binds K fd_gave ["action"] []
  g_gave : mg "_law_gave" = some (.ref f_gave)
  f_good_letters : Addr
  fd_good_letters : FuncData
  F_good_letters : Fun K "_law_good_letters" "_law_good_letters" s_good_letters f_good_letters fd_good_letters
  b_good_letters : Binds K fd_good_letters ["value"] []
  g_good_letters : mg "_law_good_letters" = some (.ref f_good_letters)
  f_good_name : Addr
  fd_good_name : FuncData
  F_good_name : Fun K "_law_good_name" "_law_good_name" s_good_name f_good_name fd_good_name
  b_good_name : Binds K fd_good_name ["value"] []
  g_good_name : mg "_law_good_name" = some (.ref f_good_name)
  f_word_due : Addr
  fd_word_due : FuncData
  F_word_due : Fun K "_law_word_due" "_law_word_due" s_word_due f_word_due fd_word_due
  b_word_due : Binds K fd_word_due ["letters", "value"] []
  g_word_due : mg "_law_word_due" = some (.ref f_word_due)
  f_words_checked : Addr
  fd_words_checked : FuncData
  C_words_checked : Addr
  P_words_checked : Addr
  F_words_checked : FunC K "_law_words_checked" "_law_words_checked" s_words_checked f_words_checked fd_words_checked C_words_checked
  B_words_checked : LamX.TabB base mg C_words_checked P_words_checked
  m_words_checked : (P_words_checked, (Str.ofString "_law_words_checked" ++ ".<locals>.") ++ "<lambda>") ∈ Tabl.T
  b_words_checked : Binds K fd_words_checked ["letters", "value"] []
  g_words_checked : mg "_law_words_checked" = some (.ref f_words_checked)
  f_numbers_checked : Addr
  fd_numbers_checked : FuncData
  C_numbers_checked : Addr
  P_numbers_checked : Addr
  F_numbers_checked : FunC K "_law_numbers_checked" "_law_numbers_checked" s_numbers_checked f_numbers_checked fd_numbers_checked C_numbers_checked
  B_numbers_checked : LamX.TabB base mg C_numbers_checked P_numbers_checked
  m_numbers_checked : (P_numbers_checked, (Str.ofString "_law_numbers_checked" ++ ".<locals>.") ++ "<lambda>") ∈ Tabl.T
  b_numbers_checked : Binds K fd_numbers_checked ["letters", "number"] []
  g_numbers_checked : mg "_law_numbers_checked" = some (.ref f_numbers_checked)
  f_one_checked : Addr
  fd_one_checked : FuncData
  F_one_checked : Fun K "_law_one_checked" "_law_one_checked" s_one_checked f_one_checked fd_one_checked
  b_one_checked : Binds K fd_one_checked ["value", "good", "error", "action"] []
  g_one_checked : mg "_law_one_checked" = some (.ref f_one_checked)
  f_word_values : Addr
  fd_word_values : FuncData
  F_word_values : Fun K "_law_word_values" "_law_word_values" s_word_values f_word_values fd_word_values
  b_word_values : Binds K fd_word_values ["store", "letters"] []
  g_word_values : mg "_law_word_values" = some (.ref f_word_values)
  f_law : Addr
  fd_law : FuncData
  C_law : Addr
  P_law : Addr
  F_law : FunC K "law" "law" s_law f_law fd_law C_law
  B_law : LamX.TabB base mg C_law P_law
  m_law : (P_law, (Str.ofString "law" ++ ".<locals>.") ++ "<lambda>") ∈ Tabl.T
  b_law : Binds K fd_law ["script"] []
  g_law : mg "law" = some (.ref f_law)
  C_LagError : Addr
  E_LagError : ErrT K mg "LagError" C_LagError
  C_BadLetters : Addr
  E_BadLetters : ErrT K mg "BadLetters" C_BadLetters
  I_BadLetters : Addr
  fdI_BadLetters : FuncData
  FI_BadLetters : Fun K "__init__" "BadLetters.__init__" si_BadLetters I_BadLetters fdI_BadLetters
  bI_BadLetters : Binds K fdI_BadLetters ["self", "value"] []
  iI_BadLetters : PySem.W.findIn K (.ref C_BadLetters) "__init__" = some (some (.ref I_BadLetters))
  tI_BadLetters : PySem.W.typeIn K (.ref I_BadLetters) = some (.type "function")
  no_BadLetters_value : PySem.W.findIn K (.ref C_BadLetters) "value" = some none
  C_BadWord : Addr
  E_BadWord : ErrT K mg "BadWord" C_BadWord
  I_BadWord : Addr
  fdI_BadWord : FuncData
  FI_BadWord : Fun K "__init__" "BadWord.__init__" si_BadWord I_BadWord fdI_BadWord
  bI_BadWord : Binds K fdI_BadWord ["self", "value"] []
  iI_BadWord : PySem.W.findIn K (.ref C_BadWord) "__init__" = some (some (.ref I_BadWord))
  tI_BadWord : PySem.W.typeIn K (.ref I_BadWord) = some (.type "function")
  no_BadWord_value : PySem.W.findIn K (.ref C_BadWord) "value" = some none
  C_BadNumber : Addr
  E_BadNumber : ErrT K mg "BadNumber" C_BadNumber
  I_BadNumber : Addr
  fdI_BadNumber : FuncData
  FI_BadNumber : Fun K "__init__" "BadNumber.__init__" si_BadNumber I_BadNumber fdI_BadNumber
  bI_BadNumber : Binds K fdI_BadNumber ["self", "value"] []
  iI_BadNumber : PySem.W.findIn K (.ref C_BadNumber) "__init__" = some (some (.ref I_BadNumber))
  tI_BadNumber : PySem.W.typeIn K (.ref I_BadNumber) = some (.type "function")
  no_BadNumber_value : PySem.W.findIn K (.ref C_BadNumber) "value" = some none
  C_BadName : Addr
  E_BadName : ErrT K mg "BadName" C_BadName
  I_BadName : Addr
  fdI_BadName : FuncData
  FI_BadName : Fun K "__init__" "BadName.__init__" si_BadName I_BadName fdI_BadName
  bI_BadName : Binds K fdI_BadName ["self", "value"] []
  iI_BadName : PySem.W.findIn K (.ref C_BadName) "__init__" = some (some (.ref I_BadName))
  tI_BadName : PySem.W.typeIn K (.ref I_BadName) = some (.type "function")
  no_BadName_value : PySem.W.findIn K (.ref C_BadName) "value" = some none
  C_BadEntry : Addr
  E_BadEntry : ErrT K mg "BadEntry" C_BadEntry
  I_BadEntry : Addr
  fdI_BadEntry : FuncData
  FI_BadEntry : Fun K "__init__" "BadEntry.__init__" si_BadEntry I_BadEntry fdI_BadEntry
  bI_BadEntry : Binds K fdI_BadEntry ["self", "place", "index"] []
  iI_BadEntry : PySem.W.findIn K (.ref C_BadEntry) "__init__" = some (some (.ref I_BadEntry))
  tI_BadEntry : PySem.W.typeIn K (.ref I_BadEntry) = some (.type "function")
  no_BadEntry_place : PySem.W.findIn K (.ref C_BadEntry) "place" = some none
  no_BadEntry_index : PySem.W.findIn K (.ref C_BadEntry) "index" = some none
  C_BadLine : Addr
  E_BadLine : ErrT K mg "BadLine" C_BadLine
  I_BadLine : Addr
  fdI_BadLine : FuncData
  FI_BadLine : Fun K "__init__" "BadLine.__init__" si_BadLine I_BadLine fdI_BadLine
  bI_BadLine : Binds K fdI_BadLine ["self", "line", "place"] []
  iI_BadLine : PySem.W.findIn K (.ref C_BadLine) "__init__" = some (some (.ref I_BadLine))
  tI_BadLine : PySem.W.typeIn K (.ref I_BadLine) = some (.type "function")
  no_BadLine_line : PySem.W.findIn K (.ref C_BadLine) "line" = some none
  no_BadLine_place : PySem.W.findIn K (.ref C_BadLine) "place" = some none
  C_Mismatch : Addr
  E_Mismatch : ErrT K mg "Mismatch" C_Mismatch
  C_TooLarge : Addr
  E_TooLarge : ErrT K mg "TooLarge" C_TooLarge
  I_TooLarge : Addr
  fdI_TooLarge : FuncData
  FI_TooLarge : Fun K "__init__" "TooLarge.__init__" si_TooLarge I_TooLarge fdI_TooLarge
  bI_TooLarge : Binds K fdI_TooLarge ["self", "what", "limit"] []
  iI_TooLarge : PySem.W.findIn K (.ref C_TooLarge) "__init__" = some (some (.ref I_TooLarge))
  tI_TooLarge : PySem.W.typeIn K (.ref I_TooLarge) = some (.type "function")
  no_TooLarge_what : PySem.W.findIn K (.ref C_TooLarge) "what" = some none
  no_TooLarge_limit : PySem.W.findIn K (.ref C_TooLarge) "limit" = some none
  k_BadNumber_BadLetters : PySem.W.kitOne K (.ref C_BadNumber) (.ref C_BadLetters) = some false
  k_BadNumber_BadWord : PySem.W.kitOne K (.ref C_BadNumber) (.ref C_BadWord) = some false
  k_BadNumber_BadNumber : PySem.W.kitOne K (.ref C_BadNumber) (.ref C_BadNumber) = some true
  k_BadNumber_BadName : PySem.W.kitOne K (.ref C_BadNumber) (.ref C_BadName) = some false
  k_BadNumber_BadEntry : PySem.W.kitOne K (.ref C_BadNumber) (.ref C_BadEntry) = some false
  k_BadNumber_BadLine : PySem.W.kitOne K (.ref C_BadNumber) (.ref C_BadLine) = some false
  k_BadNumber_Mismatch : PySem.W.kitOne K (.ref C_BadNumber) (.ref C_Mismatch) = some false
  k_BadNumber_TooLarge : PySem.W.kitOne K (.ref C_BadNumber) (.ref C_TooLarge) = some false
  k_BadNumber_ValueError : PySem.W.kitOne K (.ref C_BadNumber) (.type "ValueError") = some true
  x_BadNumber_LagError : PySem.W.exmOne K (.ref C_BadNumber) (.ref C_LagError) = some true
  k_BadLetters_BadLetters : PySem.W.kitOne K (.ref C_BadLetters) (.ref C_BadLetters) = some true
  k_BadLetters_BadWord : PySem.W.kitOne K (.ref C_BadLetters) (.ref C_BadWord) = some false
  k_BadLetters_BadNumber : PySem.W.kitOne K (.ref C_BadLetters) (.ref C_BadNumber) = some false
  k_BadLetters_BadName : PySem.W.kitOne K (.ref C_BadLetters) (.ref C_BadName) = some false
  k_BadLetters_BadEntry : PySem.W.kitOne K (.ref C_BadLetters) (.ref C_BadEntry) = some false
  k_BadLetters_BadLine : PySem.W.kitOne K (.ref C_BadLetters) (.ref C_BadLine) = some false
  k_BadLetters_Mismatch : PySem.W.kitOne K (.ref C_BadLetters) (.ref C_Mismatch) = some false
  k_BadLetters_TooLarge : PySem.W.kitOne K (.ref C_BadLetters) (.ref C_TooLarge) = some false
  k_BadLetters_ValueError : PySem.W.kitOne K (.ref C_BadLetters) (.type "ValueError") = some true
  x_BadLetters_LagError : PySem.W.exmOne K (.ref C_BadLetters) (.ref C_LagError) = some true
  k_BadWord_BadLetters : PySem.W.kitOne K (.ref C_BadWord) (.ref C_BadLetters) = some false
  k_BadWord_BadWord : PySem.W.kitOne K (.ref C_BadWord) (.ref C_BadWord) = some true
  k_BadWord_BadNumber : PySem.W.kitOne K (.ref C_BadWord) (.ref C_BadNumber) = some false
  k_BadWord_BadName : PySem.W.kitOne K (.ref C_BadWord) (.ref C_BadName) = some false
  k_BadWord_BadEntry : PySem.W.kitOne K (.ref C_BadWord) (.ref C_BadEntry) = some false
  k_BadWord_BadLine : PySem.W.kitOne K (.ref C_BadWord) (.ref C_BadLine) = some false
  k_BadWord_Mismatch : PySem.W.kitOne K (.ref C_BadWord) (.ref C_Mismatch) = some false
  k_BadWord_TooLarge : PySem.W.kitOne K (.ref C_BadWord) (.ref C_TooLarge) = some false
  k_BadWord_ValueError : PySem.W.kitOne K (.ref C_BadWord) (.type "ValueError") = some true
  x_BadWord_LagError : PySem.W.exmOne K (.ref C_BadWord) (.ref C_LagError) = some true
  k_BadName_BadLetters : PySem.W.kitOne K (.ref C_BadName) (.ref C_BadLetters) = some false
  k_BadName_BadWord : PySem.W.kitOne K (.ref C_BadName) (.ref C_BadWord) = some false
  k_BadName_BadNumber : PySem.W.kitOne K (.ref C_BadName) (.ref C_BadNumber) = some false
  k_BadName_BadName : PySem.W.kitOne K (.ref C_BadName) (.ref C_BadName) = some true
  k_BadName_BadEntry : PySem.W.kitOne K (.ref C_BadName) (.ref C_BadEntry) = some false
  k_BadName_BadLine : PySem.W.kitOne K (.ref C_BadName) (.ref C_BadLine) = some false
  k_BadName_Mismatch : PySem.W.kitOne K (.ref C_BadName) (.ref C_Mismatch) = some false
  k_BadName_TooLarge : PySem.W.kitOne K (.ref C_BadName) (.ref C_TooLarge) = some false
  k_BadName_ValueError : PySem.W.kitOne K (.ref C_BadName) (.type "ValueError") = some true
  x_BadName_LagError : PySem.W.exmOne K (.ref C_BadName) (.ref C_LagError) = some true
  z_ValueError : mg "ValueError" = none
  z_all : mg "all" = none
  z_bool : mg "bool" = none
  z_divmod : mg "divmod" = none
  z_int : mg "int" = none
  z_isinstance : mg "isinstance" = none
  z_len : mg "len" = none
  z_list : mg "list" = none
  z_max : mg "max" = none
  z_min : mg "min" = none
  z_range : mg "range" = none
  z_reversed : mg "reversed" = none
  z_set : mg "set" = none
  z_sorted : mg "sorted" = none
  z_str : mg "str" = none
  z_tuple : mg "tuple" = none
  t_MAX_LETTERS : Tok
  c_MAX_LETTERS : mg "MAX_LETTERS" = some (.int 4 t_MAX_LETTERS)
  t_MAX_NAME : Tok
  c_MAX_NAME : mg "MAX_NAME" = some (.int 12 t_MAX_NAME)
  t_MAX_READ : Tok
  c_MAX_READ : mg "MAX_READ" = some (.int 4000 t_MAX_READ)
  t_SMALL_LETTERS : Tok
  c_SMALL_LETTERS : mg "SMALL_LETTERS" = some (.str "abcdefghijklmnopqrstuvwxyz" t_SMALL_LETTERS)
  t_DIGITS : Tok
  c_DIGITS : mg "DIGITS" = some (.str "0123456789" t_DIGITS)
  t_MAX_ALL_WORDS : Tok
  c_MAX_ALL_WORDS : mg "MAX_ALL_WORDS" = some (.int 6 t_MAX_ALL_WORDS)
section
variable [Tabl] {P : Program} {w : World} {K : PySem.W.Frag} {mg : Str → Option Value} {base : Heap}
/-- any number that is not negative -/
def sp_mix (_ : PySem.W.Frag) : Sp := fun vs H Q _ => ∃ n t : Int, vs = [.int n, .int t] ∧ ∀ r : Int, 0 ≤ r → Q (.int r) H
theorem ok_mix (T : Txt K mg base) : FnOk P w K mg base CX0 (0 + 1) T.f_mix T.fd_mix ["number", "tick"] (sp_mix K) := by
  refine T.F_mix.ok sc_mix (fun vs H Q E h => ?_) (fun cdv A outer s H vs Q E hr h => ?_)
  · obtain ⟨n, t, rfl, _⟩ := h
    rfl
  · obtain ⟨n, t, rfl, q⟩ := h
    refine ⟨_, (pss_cons (ps_set (i := 2) sc_mix.nd rfl (.inl rfl) (pe_op op_mod (pe_callTy call_int1 (by rfl) T.z_int (by decide +kernel) (pa_cons (pe_op op_add (pe_op op_add (pe_op op_mul (pe_op op_mod (pe_callTy call_int1 (by rfl) T.z_int (by decide +kernel) (pa_cons (pv 0) pa_nil)) pe_int) pe_int) (pe_op op_mul (pv 1) pe_int)) pe_int) pa_nil)) pe_int))
      (pss_cons (ps_set (i := 3) sc_mix.nd rfl (.inl rfl) (pe_op op_mod (pe_callTy call_int1 (by rfl) T.z_int (by decide +kernel) (pa_cons (pe_op op_add (pe_op op_add (pe_op op_mul (pv 2) (pv 2)) (pe_op op_fdiv (pv 2) pe_int)) (pe_op op_mul (pv 1) pe_int)) pa_nil)) pe_int))
      (pss_one (ps_ret (pe_op op_mod (pe_callTy call_int1 (by rfl) T.z_int (by decide +kernel) (pa_cons (pe_op op_add (pe_op op_add (pe_op op_mul (pv 3) (pv 3)) (pe_op op_fdiv (pv 3) pe_int)) (pv 2)) pa_nil)) pe_int))))), ?_⟩
    have hm : (0 : Int) < 2147483647 := by decide
    have hk : (0 : Int) < 1000000007 := by decide
    have hj : (0 : Int) < 2147483629 := by decide
    have b1 : 0 ≤ (n % 2147483647 * 48271 + t * 69621 + 7919) % 2147483647 := Int.emod_nonneg _ (by decide)
    have b2 : (n % 2147483647 * 48271 + t * 69621 + 7919) % 2147483647 < 2147483647 := Int.emod_lt_of_pos _ hm
    have w1 : -(2 ^ 64 : Int) < (n % 2147483647 * 48271 + t * 69621 + 7919) % 2147483647 ∧ (n % 2147483647 * 48271 + t * 69621 + 7919) % 2147483647 < 2 ^ 64 := ⟨by omega, by omega⟩
    refine ⟨.int n, rfl, .inl ⟨_, rfl, _, _, rfl, rfl, hm, _, _, rfl, rfl, .inr ⟨by decide, by decide⟩, .int t, rfl, _, _, rfl, rfl, .inr ⟨by decide, by decide⟩, _, _, rfl, rfl, _, _, rfl, rfl, .inl ⟨_, rfl, _, _, rfl, rfl, hm, ?_⟩⟩⟩
    have x1 : ∃ one, one = (n % 2147483647 * 48271 + t * 69621 + 7919) % 2147483647 := ⟨_, rfl⟩
    obtain ⟨one, e1⟩ := x1
    rw [← e1] at w1
    have b3 : 0 ≤ (one * one + one / 127 + t * 3571) % 1000000007 := Int.emod_nonneg _ (by decide)
    have b4 : (one * one + one / 127 + t * 3571) % 1000000007 < 1000000007 := Int.emod_lt_of_pos _ hk
    have w2 : -(2 ^ 64 : Int) < (one * one + one / 127 + t * 3571) % 1000000007 ∧ (one * one + one / 127 + t * 3571) % 1000000007 < 2 ^ 64 := ⟨by omega, by omega⟩
    subst e1
    refine ⟨_, rfl, _, rfl, _, _, rfl, rfl, .inl w1, _, rfl, _, _, rfl, rfl, ⟨by decide, by decide⟩, _, _, rfl, rfl, .int t, rfl, _, _, rfl, rfl, .inr ⟨by decide, by decide⟩, _, _, rfl, rfl, .inl ⟨_, rfl, _, _, rfl, rfl, hk, ?_⟩⟩
    exact ⟨_, rfl, _, rfl, _, _, rfl, rfl, .inl w2, _, rfl, _, _, rfl, rfl, ⟨by decide, by decide⟩, _, _, rfl, rfl, _, rfl, _, _, rfl, rfl, .inl ⟨_, rfl, _, _, rfl, rfl, hj, q _ (Int.emod_nonneg _ (by decide))⟩⟩

/-- a number d from 0 on, below many, or 0; the store moves on, all else stands -/
def sp_take (_ : PySem.W.Frag) : Sp := fun vs H Q _ => ∃ (a ca : Addr) (many : Int), vs = [.ref a, .int many] ∧ Sto H a ca ∧ many < 1073741824 ∧
  ∀ (d : Int) (H' : Hp), 0 ≤ d → (d < many ∨ d = 0) → But a H H' → Sto H' a ca → Q (.int d) H'
theorem ok_take (T : Txt K mg base) : FnOk P w K mg base CX0 (1 + 1) T.f_take T.fd_take ["store", "many"] (sp_take K) := by
  refine T.F_take.ok sc_take (fun vs H Q E h => ?_) (fun cdv A outer s H vs Q E hr h => ?_)
  · obtain ⟨a, ca, m, rfl, _⟩ := h
    rfl
  · obtain ⟨a, ca, m, rfl, S, hm, q⟩ := h
    refine ⟨_, (pss_cons (ps_set (i := 1) sc_take.nd rfl (.inl rfl) (pe_callB (call_max2 rfl) (by rfl) T.z_max (by decide +kernel) (pa_cons pe_int (pa_cons (pv 1) pa_nil))))
      (pss_cons (ps_asg (pe_op op_add (pe_ix ix_list (pv 0) pe_int (fun _ _ => rfl)) pe_int) (pg_sub (pv 0) pe_int set_list))
      (pss_cons (ps_set (i := 2) sc_take.nd rfl (.inl rfl) (pe_ix ix_list (pv 0) pe_int (fun _ _ => rfl)))
      (pss_cons (ps_if (PW.pt (pw_and (pt_cmpR op_lt (pe_ix ix_list (pv 0) pe_int (fun _ _ => rfl)) pe_int (nomark _)) (pw_and1 (pt_cmpR op_lt (pe_ix ix_list (pv 0) pe_int (fun _ _ => rfl)) (pe_callB call_len_seq (by rfl) T.z_len PySem.boot_len (pa_cons (pv 2) pa_nil)) (nomark _))))) (pss_cons (ps_set (i := 3) sc_take.nd rfl (.inl rfl) (pe_callTy call_int1 (by rfl) T.z_int (by decide +kernel) (pa_cons (pe_ix ix_list (pv 2) (pe_ix ix_list (pv 0) pe_int (fun _ _ => rfl)) (fun _ _ => rfl)) pa_nil)))
      (pss_cons (ps_asg (pe_op op_add (pe_ix ix_list (pv 0) pe_int (fun _ _ => rfl)) pe_int) (pg_sub (pv 0) pe_int set_list))
      (pss_cons (ps_if (pt_cmpR op_lt (pv 3) (pe_op op_pow pe_int pe_int) (nomark _)) (pss_one (ps_ret (pe_op op_mod (pe_callTy call_int1 (by rfl) T.z_int (by decide +kernel) (pa_cons (pe_call (ok_mix T) (hr.mono (by first | decide | exact Nat.le_refl _)) (by rfl) T.g_mix T.F_mix.kp T.b_mix .nil pass0 (pa_cons (pv 3) (pa_cons (pe_ix ix_list (pv 0) pe_int (fun _ _ => rfl)) pa_nil))) pa_nil)) (pv 1)))) pss_nil)
      (pss_one (ps_asg (pe_callTy call_int1 (by rfl) T.z_int (by decide +kernel) (pa_cons (pv 3) pa_nil)) (pg_sub (pv 0) pe_int set_list)))))) pss_nil)
      (pss_cons (ps_if (pt_cmpR op_lt (pe_ix ix_list (pv 0) pe_int (fun _ _ => rfl)) pe_int (nomark _)) (pss_one (ps_ret (pe_op op_mod (pe_callTy call_int1 (by rfl) T.z_int (by decide +kernel) (pa_cons (pe_call (ok_mix T) (hr.mono (by first | decide | exact Nat.le_refl _)) (by rfl) T.g_mix T.F_mix.kp T.b_mix .nil pass0 (pa_cons (pe_ix ix_list (pv 0) pe_int (fun _ _ => rfl)) (pa_cons (pe_ix ix_list (pv 0) pe_int (fun _ _ => rfl)) pa_nil))) pa_nil)) (pv 1)))) pss_nil)
      (pss_cons (ps_set (i := 4) sc_take.nd rfl (.inl rfl) (pe_op op_mod (pe_callTy call_int1 (by rfl) T.z_int (by decide +kernel) (pa_cons (pe_ix ix_list (pv 0) pe_int (fun _ _ => rfl)) pa_nil)) (pv 1)))
      (pss_cons (ps_asg (pe_op op_fdiv (pe_callTy call_int1 (by rfl) T.z_int (by decide +kernel) (pa_cons (pe_ix ix_list (pv 0) pe_int (fun _ _ => rfl)) pa_nil)) (pv 1)) (pg_sub (pv 0) pe_int set_list))
      (pss_one (ps_ret (pv 4)))))))))), ?_⟩
    obtain ⟨ns, i, b, t, sd, h1, h2, h3, h4⟩ := S
    -- many = max(1, many)
    refine ⟨.int m, rfl, _, _, rfl, ?_⟩
    have hM : ∃ M : Int, (if m > 1 then m else 1) = M ∧ 1 ≤ M ∧ M < 1073741824 ∧ ∀ d, d < M → 0 ≤ d → (d < m ∨ d = 0) := by
      by_cases g : m > 1
      · exact ⟨m, by rw [if_pos g], by omega, hm, fun d z _ => .inl z⟩
      · exact ⟨1, by rw [if_neg g], by omega, by decide, fun d z1 z2 => .inr (by omega)⟩
    obtain ⟨M, eM, hM1, hM2, hMd⟩ := hM
    rw [eM]
    have hM0 : 0 < M := by omega
    -- store[3] = store[3] + 1
    refine ⟨.ref a, rfl, _, _, _, _, rfl, rfl, .inl (.inl h1), rfl, _, _, rfl, rfl, .ref a, rfl, a, _, 3, 3, rfl, rfl, h1, rfl, ?_⟩
    -- cells = store[0]
    have h1' : (upd H a (.lst [.ref ca, .int i, .int b, .int (t + 1), .int sd])) a = some (.lst [.ref ca, .int i, .int b, .int (t + 1), .int sd]) := upd_same
    have h2' : (upd H a (.lst [.ref ca, .int i, .int b, .int (t + 1), .int sd])) ca = some (.lst (ns.map V.int)) := by
      rw [upd_ne h4]
      exact h2
    have hB : But a H (upd H a (.lst [.ref ca, .int i, .int b, .int (t + 1), .int sd])) := But.put h1
    have tail : ∀ (Ht : Hp) (bt : Int) (it tt : Int), Ht a = some (.lst [.ref ca, .int it, .int bt, .int tt, .int sd]) → Ht ca = some (.lst (ns.map V.int)) → 0 ≤ it → But a H Ht →
      ∀ r : Int, ∀ (d : Int) (H' : Hp), d = r % M → (H' = Ht ∨ ∃ b' : Int, H' = upd Ht a (.lst [.ref ca, .int it, .int b', .int tt, .int sd])) → Q (.int d) H' := by
      intro Ht bt it tt e1 e2 e3 eB r d H' ed eH
      subst ed
      have d0 : 0 ≤ r % M := Int.emod_nonneg _ (by omega)
      have d1 : r % M < M := Int.emod_lt_of_pos _ hM0
      rcases eH with rfl | ⟨b', rfl⟩
      · exact q _ _ d0 (hMd _ d1 d0) eB ⟨ns, it, bt, tt, sd, e1, e2, e3, h4⟩
      · refine q _ _ d0 (hMd _ d1 d0) (eB.trans (But.put e1)) ⟨ns, it, b', tt, sd, upd_same, ?_, e3, h4⟩
        rw [upd_ne h4]
        exact e2
    -- the tests
    refine ⟨.ref a, rfl, _, _, _, _, rfl, rfl, .inl (.inl h1'), rfl, .ref a, rfl, _, _, _, _, rfl, rfl, .inl (.inl h1'), rfl, _, _, rfl, rfl, _, rfl, ite2 (fun g1 => ?_) (fun g1 => ?_)⟩
    · refine ⟨.ref a, rfl, _, _, _, _, rfl, rfl, .inl (.inl h1'), rfl, .ref ca, rfl, _, _, rfl, .inl (.inl (.inl h2')), _, _, rfl, rfl, _, rfl, ite2 (fun g2 => ?_) (fun g2 => ?_)⟩
      · obtain ⟨n, hn⟩ := ints_at h3 (of_decide_eq_true g2)
        -- cell = int(cells[store[1]])
        refine ⟨.ref ca, rfl, .ref a, rfl, _, _, _, _, rfl, rfl, .inl (.inl h1'), rfl, _, _, _, _, rfl, rfl, .inl (.inl h2'), hn, .inl ⟨_, rfl, ?_⟩⟩
        -- store[1] = store[1] + 1
        refine ⟨.ref a, rfl, _, _, _, _, rfl, rfl, .inl (.inl h1'), rfl, _, _, rfl, rfl, .ref a, rfl, a, _, 1, 1, rfl, rfl, h1', rfl, ?_⟩
        have k1 : (upd (upd H a (.lst [.ref ca, .int i, .int b, .int (t + 1), .int sd])) a (.lst [.ref ca, .int (i + 1), .int b, .int (t + 1), .int sd])) a = some (.lst [.ref ca, .int (i + 1), .int b, .int (t + 1), .int sd]) := upd_same
        have k2 : (upd (upd H a (.lst [.ref ca, .int i, .int b, .int (t + 1), .int sd])) a (.lst [.ref ca, .int (i + 1), .int b, .int (t + 1), .int sd])) ca = some (.lst (ns.map V.int)) := by
          rw [upd_ne h4]
          exact h2'
        have kB := hB.trans (But.put (a := a) (H := (upd H a (.lst [.ref ca, .int i, .int b, .int (t + 1), .int sd]))) (o := (.lst [.ref ca, .int (i + 1), .int b, .int (t + 1), .int sd])) h1')
        have k3 : 0 ≤ i + 1 := by omega
        -- if cell < 10 ** 18
        refine ⟨_, rfl, _, _, rfl, rfl, ⟨by decide, by decide, by decide⟩, _, _, rfl, rfl, _, rfl, ite2 (fun g3 => ?_) (fun g3 => ?_)⟩
        · exact ⟨_, rfl, .ref a, rfl, _, _, _, _, rfl, rfl, .inl (.inl k1), rfl, _, _, rfl, fun r hr0 => .inl ⟨_, rfl, _, rfl, _, _, rfl, rfl, hM0, tail _ _ _ _ k1 k2 k3 kB r _ _ rfl (.inl rfl)⟩⟩
        · -- store[2] = int(cell)
          refine ⟨_, rfl, .inl ⟨_, rfl, .ref a, rfl, a, _, 2, 2, rfl, rfl, k1, rfl, ?_⟩⟩
          have m1 : (upd (upd (upd H a (.lst [.ref ca, .int i, .int b, .int (t + 1), .int sd])) a (.lst [.ref ca, .int (i + 1), .int b, .int (t + 1), .int sd])) a (.lst [.ref ca, .int (i + 1), .int n, .int (t + 1), .int sd])) a = some (.lst [.ref ca, .int (i + 1), .int n, .int (t + 1), .int sd]) := upd_same
          have m2 : (upd (upd (upd H a (.lst [.ref ca, .int i, .int b, .int (t + 1), .int sd])) a (.lst [.ref ca, .int (i + 1), .int b, .int (t + 1), .int sd])) a (.lst [.ref ca, .int (i + 1), .int n, .int (t + 1), .int sd])) ca = some (.lst (ns.map V.int)) := by
            rw [upd_ne h4]
            exact k2
          have mB := kB.trans (But.put (a := a) (H := (upd (upd H a (.lst [.ref ca, .int i, .int b, .int (t + 1), .int sd])) a (.lst [.ref ca, .int (i + 1), .int b, .int (t + 1), .int sd]))) (o := (.lst [.ref ca, .int (i + 1), .int n, .int (t + 1), .int sd])) k1)
          refine ⟨.ref a, rfl, _, _, _, _, rfl, rfl, .inl (.inl m1), rfl, _, _, rfl, rfl, _, rfl, ite2 (fun g4 => ?_) (fun g4 => ?_)⟩
          · exact ⟨.ref a, rfl, _, _, _, _, rfl, rfl, .inl (.inl m1), rfl, .ref a, rfl, _, _, _, _, rfl, rfl, .inl (.inl m1), rfl, _, _, rfl, fun r hr0 => .inl ⟨_, rfl, _, rfl, _, _, rfl, rfl, hM0, tail _ _ _ _ m1 m2 k3 mB r _ _ rfl (.inl rfl)⟩⟩
          · exact ⟨.ref a, rfl, _, _, _, _, rfl, rfl, .inl (.inl m1), rfl, .inl ⟨_, rfl, _, rfl, _, _, rfl, rfl, hM0, .ref a, rfl, _, _, _, _, rfl, rfl, .inl (.inl m1), rfl, .inl ⟨_, rfl, _, rfl, _, _, rfl, rfl, ⟨hM0, hM2⟩, .ref a, rfl, a, _, 2, 2, rfl, rfl, m1, rfl, _, rfl, tail _ _ _ _ m1 m2 k3 mB _ _ _ rfl (.inr ⟨_, rfl⟩)⟩⟩⟩
      · refine ⟨.ref a, rfl, _, _, _, _, rfl, rfl, .inl (.inl h1'), rfl, _, _, rfl, rfl, _, rfl, ite2 (fun g4 => ?_) (fun g4 => ?_)⟩
        · exact ⟨.ref a, rfl, _, _, _, _, rfl, rfl, .inl (.inl h1'), rfl, .ref a, rfl, _, _, _, _, rfl, rfl, .inl (.inl h1'), rfl, _, _, rfl, fun r hr0 => .inl ⟨_, rfl, _, rfl, _, _, rfl, rfl, hM0, tail _ _ _ _ h1' h2' h3 hB r _ _ rfl (.inl rfl)⟩⟩
        · exact ⟨.ref a, rfl, _, _, _, _, rfl, rfl, .inl (.inl h1'), rfl, .inl ⟨_, rfl, _, rfl, _, _, rfl, rfl, hM0, .ref a, rfl, _, _, _, _, rfl, rfl, .inl (.inl h1'), rfl, .inl ⟨_, rfl, _, rfl, _, _, rfl, rfl, ⟨hM0, hM2⟩, .ref a, rfl, a, _, 2, 2, rfl, rfl, h1', rfl, _, rfl, tail _ _ _ _ h1' h2' h3 hB _ _ _ rfl (.inr ⟨_, rfl⟩)⟩⟩⟩
    · refine ⟨.ref a, rfl, _, _, _, _, rfl, rfl, .inl (.inl h1'), rfl, _, _, rfl, rfl, _, rfl, ite2 (fun g4 => ?_) (fun g4 => ?_)⟩
      · exact ⟨.ref a, rfl, _, _, _, _, rfl, rfl, .inl (.inl h1'), rfl, .ref a, rfl, _, _, _, _, rfl, rfl, .inl (.inl h1'), rfl, _, _, rfl, fun r hr0 => .inl ⟨_, rfl, _, rfl, _, _, rfl, rfl, hM0, tail _ _ _ _ h1' h2' h3 hB r _ _ rfl (.inl rfl)⟩⟩
      · exact ⟨.ref a, rfl, _, _, _, _, rfl, rfl, .inl (.inl h1'), rfl, .inl ⟨_, rfl, _, rfl, _, _, rfl, rfl, hM0, .ref a, rfl, _, _, _, _, rfl, rfl, .inl (.inl h1'), rfl, .inl ⟨_, rfl, _, rfl, _, _, rfl, rfl, ⟨hM0, hM2⟩, .ref a, rfl, a, _, 2, 2, rfl, rfl, h1', rfl, _, rfl, tail _ _ _ _ h1' h2' h3 hB _ _ _ rfl (.inr ⟨_, rfl⟩)⟩⟩⟩

/-- a sign of the text, an item of the list; the store moves on, all else stands -/
def sp_pick (_ : PySem.W.Frag) : Sp := fun vs H Q _ => ∃ (a ca : Addr), Sto H a ca ∧ ((∃ z : Str, vs = [.ref a, .str z] ∧ 0 < z.length ∧ z.length ≤ 1000000 ∧
    ∀ (c : Nat) (H' : Hp), c ∈ cs z → But a H H' → Sto H' a ca → Q (.str ⟨#[c]⟩) H') ∨
  (∃ (l : Addr) (xs : List V), vs = [.ref a, .ref l] ∧ l ≠ a ∧ H l = some (.lst xs) ∧ 0 < xs.length ∧ xs.length ≤ 1000000 ∧
    ∀ (x : V) (H' : Hp), x ∈ xs → But a H H' → Sto H' a ca → Q x H'))
theorem ok_pick (T : Txt K mg base) : FnOk P w K mg base CX0 (2 + 1) T.f_pick T.fd_pick ["store", "row"] (sp_pick K) := by
  refine T.F_pick.ok sc_pick (fun vs H Q E h => ?_) (fun cdv A outer s H vs Q E hr h => ?_)
  · obtain ⟨a, ca, _, ⟨z, rfl, _⟩ | ⟨l, xs, rfl, _⟩⟩ := h <;> rfl
  · obtain ⟨a, ca, S, h⟩ := h
    refine ⟨_, (pss_one (ps_ret (pe_ix ix_seq (pv 1) (pe_call (ok_take T) (hr.mono (by first | decide | exact Nat.le_refl _)) (by rfl) T.g_take T.F_take.kp T.b_take .nil pass0 (pa_cons (pv 0) (pa_cons (pe_callB call_len (by rfl) T.z_len PySem.boot_len (pa_cons (pv 1) pa_nil)) pa_nil))) (fun _ _ => rfl)))), ?_⟩
    rcases h with ⟨z, rfl, h0, h1, q⟩ | ⟨l, xs, rfl, hla, hl, h0, h1, q⟩
    · refine ⟨_, rfl, _, rfl, _, rfl, _, _, rfl, ⟨small_text h1, rfl⟩, a, ca, _, rfl, S, by omega, fun d H' d0 d1 hB S' => ?_⟩
      obtain ⟨j, rfl⟩ := Int.eq_ofNat_of_zero_le d0
      have hj : j < (cs z).length := by
        rw [cs_len]
        omega
      exact .inr (.inr ⟨z, _, (cs z)[j], rfl, rfl, small_text h1, atI_nat (List.getElem?_eq_getElem hj), q _ _ (List.getElem_mem hj) hB S'⟩)
    · refine ⟨_, rfl, _, rfl, _, rfl, _, _, rfl, .inl ⟨_, .inl (.inl hl), rfl⟩, a, ca, _, rfl, S, by omega, fun d H' d0 d1 hB S' => ?_⟩
      obtain ⟨j, rfl⟩ := Int.eq_ofNat_of_zero_le d0
      have hj : j < xs.length := by omega
      exact .inl ⟨l, xs, _, xs[j], rfl, rfl, .inl (.inl (hB _ _ hla hl)), atI_nat (List.getElem?_eq_getElem hj), q _ _ (List.getElem_mem hj) hB S'⟩

def sp_worn (_ : PySem.W.Frag) : Sp := fun vs H Q _ => ∃ (a ca l : Addr) (xs : List V), vs = [.ref a, .ref l] ∧ Sto H a ca ∧ l ≠ a ∧ H l = some (.lst xs) ∧ xs.length ≤ 1000000 ∧
  ∀ (p : Addr) (H' : Hp), p ≠ a → (H' p = some (.lst xs) ∨ H' p = some (.tup xs)) → But a H H' → Sto H' a ca → Q (.ref p) H'
theorem ok_worn (T : Txt K mg base) : FnOk P w K mg base CX0 (2 + 1) T.f_worn T.fd_worn ["store", "row"] (sp_worn K) := by
  refine T.F_worn.ok sc_worn (fun vs H Q E h => ?_) (fun cdv A outer s H vs Q E hr h => ?_)
  · obtain ⟨a, ca, l, xs, rfl, _⟩ := h
    rfl
  · obtain ⟨a, ca, l, xs, rfl, S, ne, hl, len, q⟩ := h
    refine ⟨_, (pss_cons (ps_if (pt_cmpR op_eq (pe_call (ok_take T) (hr.mono (by first | decide | exact Nat.le_refl _)) (by rfl) T.g_take T.F_take.kp T.b_take .nil pass0 (pa_cons (pv 0) (pa_cons pe_int pa_nil))) pe_int (nomark _)) (pss_one (ps_ret (pe_callTy call_tuple_of (by rfl) T.z_tuple (by decide +kernel) (pa_cons (pv 1) pa_nil)))) pss_nil)
      (pss_one (ps_ret (pe_callTy call_list_of (by rfl) T.z_list (by decide +kernel) (pa_cons (pv 1) pa_nil))))), ?_⟩
    refine ⟨_, rfl, a, ca, 2, rfl, S, by decide, fun d H1 d0 d1 B1 S1 => ?_⟩
    have hl1 := B1 _ _ ne hl
    refine ⟨rfl, _, rfl, ite2 (fun _ => ?_) (fun _ => ?_)⟩
    · exact ⟨_, rfl, l, xs, rfl, .inl ⟨.inl (.inl hl1), fun p np => q p _ (S1.ne np).1 (.inr upd_same) (B1.trans (But.new np)) (S1.new np)⟩⟩
    · exact ⟨_, rfl, l, xs, rfl, .inl (.inl (.inl hl1)), fun p np => q p _ (S1.ne np).1 (.inl upd_same) (B1.trans (But.new np)) (S1.new np)⟩

def sp_any (_ : PySem.W.Frag) : Sp := fun vs H Q _ => ∃ (a ca : Addr), vs = [.ref a] ∧ Sto H a ca ∧ ∀ (v : V) (H' : Hp), Deep a 6 H' v → But a H H' → Sto H' a ca → Q v H'
theorem ok_any (T : Txt K mg base) : FnOk P w K mg base CX0 (3 + 1) T.f_any T.fd_any ["store"] (sp_any K) := by
  refine T.F_any.ok sc_any (fun vs H Q E h => ?_) (fun cdv A outer s H vs Q E hr h => ?_)
  · obtain ⟨a, ca, rfl, _⟩ := h
    rfl
  · obtain ⟨a, ca, rfl, S, q⟩ := h
    refine ⟨_, (pss_cons (ps_set (i := 1) sc_any.nd rfl (.inl rfl) (pe_call (ok_pick T) (hr.mono (by first | decide | exact Nat.le_refl _)) (by rfl) T.g_pick T.F_pick.kp T.b_pick .nil pass0 (pa_cons (pv 0) (pa_cons (pe_lst (pa_cons pe_non (pa_cons pe_bl (pa_cons pe_bl (pa_cons pe_int (pa_cons pe_int (pa_cons (pe_un un_neg pe_int) (pa_cons pe_str (pa_cons pe_str (pa_cons pe_str (pa_cons pe_str (pa_cons pe_str (pa_cons pe_str (pa_cons pe_str (pa_cons pe_str (pa_cons pe_str (pa_cons pe_str pa_nil))))))))))))))))) pa_nil))))
      (pss_cons (ps_for PassesOwn.never rfl (pi_range1 (by rfl) T.z_range (pa_cons (pe_call (ok_pick T) (hr.mono (by first | decide | exact Nat.le_refl _)) (by rfl) T.g_pick T.F_pick.kp T.b_pick .nil pass0 (pa_cons (pv 0) (pa_cons (pe_lst (pa_cons pe_int (pa_cons pe_int (pa_cons pe_int (pa_cons pe_int pa_nil))))) pa_nil))) pa_nil)) (pg_name (i := 2) sc_any.nd rfl (.inl rfl)) (pss_one (ps_set (i := 1) sc_any.nd rfl (.inl rfl) (pe_call (ok_worn T) (hr.mono (by first | decide | exact Nat.le_refl _)) (by rfl) T.g_worn T.F_worn.kp T.b_worn .nil pass0 (pa_cons (pv 0) (pa_cons (pe_lst (pa_cons (pv 1) pa_nil)) pa_nil))))))
      (pss_one (ps_ret (pv 1))))), ?_⟩
    refine ⟨_, rfl, _, rfl, by show 16 ≤ sizeLine; decide, fun p1 n1 => ?_⟩
    have S1 := S.new (o := .lst [.non, .bl true, .bl false, .int 0, .int 1, .int (-1), .str (Str.ofString ""), .str (Str.ofString "-"), .str (Str.ofString "a"), .str (Str.ofString "xyz"), .str (Str.ofString "abcd"), .str (Str.ofString "ba"), .str (Str.ofString "abcde"), .str (Str.ofString "a1"), .str (Str.ofString "A"), .str (Str.ofString "aa")]) n1
    refine ⟨a, ca, S1, .inr ⟨p1, _, rfl, (S.ne n1).1, upd_same, by show 0 < 16; decide, by show 16 ≤ 1000000; decide, fun v H2 m B2 S2 => ?_⟩⟩
    have d0 : ∀ Hx : Hp, Deep a 0 Hx v := fun Hx => by
      have z200 : ∀ i : Int, i.natAbs < 2 ^ 200 → i.natAbs < 2 ^ 13000 := fun i h => Nat.lt_of_lt_of_le h (Nat.pow_le_pow_right (by decide) (by decide))
      have all : ∀ x ∈ [V.non, .bl true, .bl false, .int 0, .int 1, .int (-1), .str (Str.ofString ""), .str (Str.ofString "-"), .str (Str.ofString "a"), .str (Str.ofString "xyz"), .str (Str.ofString "abcd"), .str (Str.ofString "ba"), .str (Str.ofString "abcde"), .str (Str.ofString "a1"), .str (Str.ofString "A"), .str (Str.ofString "aa")], Deep a 0 Hx x := by
        refine List.forall_mem_cons.mpr ⟨deep_non, List.forall_mem_cons.mpr ⟨deep_bl, List.forall_mem_cons.mpr ⟨deep_bl, List.forall_mem_cons.mpr ⟨deep_int (z200 _ (by decide)), List.forall_mem_cons.mpr ⟨deep_int (z200 _ (by decide)), List.forall_mem_cons.mpr ⟨deep_int (z200 _ (by decide)), ?_⟩⟩⟩⟩⟩⟩
        refine List.forall_mem_cons.mpr ⟨deep_str (by decide +kernel), List.forall_mem_cons.mpr ⟨deep_str (by decide +kernel), List.forall_mem_cons.mpr ⟨deep_str (by decide +kernel), List.forall_mem_cons.mpr ⟨deep_str (by decide +kernel), List.forall_mem_cons.mpr ⟨deep_str (by decide +kernel), ?_⟩⟩⟩⟩⟩
        exact List.forall_mem_cons.mpr ⟨deep_str (by decide +kernel), List.forall_mem_cons.mpr ⟨deep_str (by decide +kernel), List.forall_mem_cons.mpr ⟨deep_str (by decide +kernel), List.forall_mem_cons.mpr ⟨deep_str (by decide +kernel), List.forall_mem_cons.mpr ⟨deep_str (by decide +kernel), fun x m => absurd m List.not_mem_nil⟩⟩⟩⟩⟩
      exact all v m
    have B02 : But a H H2 := (But.new n1).trans B2
    refine ⟨_, rfl, by show 4 ≤ sizeLine; decide, fun p2 n2 => ?_⟩
    have S3 := S2.new (o := .lst [.int 0, .int 0, .int 1, .int 6]) n2
    refine ⟨a, ca, S3, .inr ⟨p2, _, rfl, (S2.ne n2).1, upd_same, by show 0 < 4; decide, by show 4 ≤ 1000000; decide, fun k H4 mk B4 S4 => ?_⟩⟩
    obtain ⟨kn, rfl, k6⟩ : ∃ kn : Nat, k = .int (kn : Int) ∧ kn ≤ 6 := by
      have : ∀ x ∈ [V.int 0, .int 0, .int 1, .int 6], ∃ kn : Nat, x = .int (kn : Int) ∧ kn ≤ 6 :=
        List.forall_mem_cons.mpr ⟨⟨0, rfl, by decide⟩, List.forall_mem_cons.mpr ⟨⟨0, rfl, by decide⟩, List.forall_mem_cons.mpr ⟨⟨1, rfl, by decide⟩, List.forall_mem_cons.mpr ⟨⟨6, rfl, by decide⟩, fun x m => absurd m List.not_mem_nil⟩⟩⟩⟩
      exact this k mk
    have B04 : But a H H4 := B02.trans ((But.new n2).trans B4)
    refine ⟨(kn : Int), rfl, by omega, by omega, ?_⟩
    refine for_range (lo := 0) (n := (kn : Int).toNat) (fun i σ H' => ∃ (u : V) (y : Option V), σ = [some (.ref a), some u, y] ∧ Deep a i H' u ∧ But a H H' ∧ Sto H' a ca) ⟨v, none, rfl, d0 _, B04, S4⟩ ?_ ?_
    · rintro i σ H' hn ⟨u, y, rfl, du, B5, S5⟩
      refine ⟨_, rfl, _, rfl, by show 1 ≤ sizeLine; decide, fun p3 n3 => ?_⟩
      have du3 : Deep a i (upd H' p3 (.lst [u])) u := du.same (same_new n3)
      refine ⟨a, ca, p3, [u], rfl, S5.new n3, (S5.ne n3).1, upd_same, by show 1 ≤ 1000000; decide, fun p4 H6 ne4 o4 B6 S6 => ?_⟩
      have du6 := du3.but B6
      refine ⟨_, _, rfl, ?_, B5.trans ((But.new n3).trans B6), S6⟩
      have it : ∀ x ∈ [u], Deep a i H6 x := fun x m => by
        rw [List.mem_singleton.mp m]
        exact du6
      rcases o4 with o | o
      · exact deep_lst ne4 o (by show 1 ≤ 1000000; decide) it
      · exact deep_tup ne4 o (by show 1 ≤ 1000000; decide) it
    · rintro σ H' ⟨u, y, rfl, du, B5, S5⟩
      exact ⟨_, rfl, q _ _ (du.le (by show kn ≤ 6; exact k6)) B5 S5⟩

def sp_copyD [Tabl] (n : Nat) : Sp := fun vs H Q _ => ∃ v : V, vs = [v] ∧ (∃ a, Deep a n H v) ∧ ∀ (u : V) (H' : Hp), Same H H' → SameD n H' u v → (∀ b, H b ≠ none → Deep b n H v → Deep b n H' u) → Q u H'
/-- what stands behind i items: their copies, apart from the new list -/
def CopyI [Tabl] (n : Nat) (H : Hp) (D : Addr) (xs : List V) (i : Nat) (H' : Hp) : Prop := Same H H' ∧ ∃ ys : List V, H' D = some (.lst ys) ∧ ys.length = i ∧ ∀ (j : Nat) (x y : V), xs[j]? = some x → ys[j]? = some y → SameD n H' y x ∧ Deep D n H' y ∧ ∀ b, H b ≠ none → Deep b n H x → Deep b n H' y
theorem CopyI.step [Tabl] {n i : Nat} {H H1 H2 : Hp} {D : Addr} {xs : List V} {x u : V} {ys : List V} {a : Addr} (nD : H D = none) (s1 : Same H H1) (hD : H1 D = some (.lst ys)) (ly : ys.length = i) (lx : xs.length ≤ 1000000) (hx : xs[i]? = some x)
    (dx : ∀ x ∈ xs, Deep a n H x) (c : ∀ (j : Nat) (x y : V), xs[j]? = some x → ys[j]? = some y → SameD n H1 y x ∧ Deep D n H1 y ∧ ∀ b, H b ≠ none → Deep b n H x → Deep b n H1 y)
    (s2 : Same H1 H2) (su : SameD n H2 u x) (du : ∀ b, H1 b ≠ none → Deep b n H1 x → Deep b n H2 u) : CopyI n H D xs (i + 1) (upd H2 D (.lst (ys ++ [u]))) := by
  have hD2 : H2 D = some (.lst ys) := s2 _ _ hD
  have kb : But D H2 (upd H2 D (.lst (ys ++ [u]))) := But.put hD2
  have mx : ∀ {j z}, xs[j]? = some z → Deep D n H z := fun e => (dx _ (List.mem_of_getElem? e)).avoid nD
  refine ⟨(Same.refl H).grown nD (s1.trans s2) hD2, _, upd_same, by rw [List.length_append, ly]; rfl, fun j z y hz hy => ?_⟩
  by_cases g : j < ys.length
  · rw [List.getElem?_append_left g] at hy
    obtain ⟨c1, c2, c3⟩ := c j z y hz hy
    have d2 := c2.same s2
    exact ⟨(SameD.keep s2 c1).put kb d2 (((mx hz).same s1).same s2), d2.put kb d2, fun b hb db => ((c3 b hb db).same s2).put kb d2⟩
  · have lj : j = i := by
      have := (List.getElem?_eq_some_iff.mp hz).1
      have := (List.getElem?_eq_some_iff.mp hy).1
      rw [List.length_append] at this
      have : j < ys.length + 1 := this
      omega
    subst lj
    rw [List.getElem?_append_right (by omega), ly, Nat.sub_self] at hy
    have ey : u = y := Option.some.inj hy
    subst ey
    rw [hx] at hz
    have ez : x = z := Option.some.inj hz
    subst ez
    have dD : Deep D n H2 u := du D (by rw [hD]; exact fun z => by cases z) ((mx hx).same s1)
    exact ⟨su.put kb dD (((mx hx).same s1).same s2), dD.put kb dD, fun b hb db => (du b (s1.some hb) (db.same s1)).put kb dD⟩
/-- no promise at all -/
theorem fnOk_noCopy {f : Addr} {fd : FuncData} {ps : List Str} {k : Nat} : FnOk P w K mg base CX0 k f fd ps (fun _ _ _ _ => False) :=
  ⟨fun vs H Q E h => h.elim, fun A outer s H args us vs Q E _ _ _ _ h => h.elim⟩
theorem copy_zero {j : Nat} (T : Txt K mg base) :
    FnOk P w K mg base CX0 (j + 1) T.f_copy T.fd_copy ["value"] (sp_copyD 0) := by
  refine T.F_copy.ok sc_copy (fun vs H Q E h => ?_) (fun cdv A outer s H vs Q E hr h => ?_)
  · obtain ⟨v, rfl, _⟩ := h
    rfl
  · obtain ⟨v, rfl, ⟨a, dv⟩, q⟩ := h
    have G : FnOk P w K mg base CX0 j T.f_copy T.fd_copy ["value"] (fun _ _ _ _ => False) := fnOk_noCopy
    refine ⟨_, (pss_cons (ps_if (pt_val (pe_callB call_isi (by rfl) T.z_isinstance (by decide +kernel) (pa_cons (pv 0) (pa_cons (pe_bltn (v := .ty "list") (by rfl) T.z_list (by decide +kernel) rfl) pa_nil)))) (pss_one (ps_ret (pe_lc (own := [("item", 1)]) (g := gName 1) rfl sc_copy.nd (pi_list (pv 0)) (blkOk_by (N := ["value", "item"]) (sc := defScope s_copy) (by decide +kernel)) (fun _ _ _ _ _ => pg_name (i := 1) sc_copy.nd rfl (Or.inl rfl)) (fun _ _ _ _ _ => pts_nil) (fun _ _ _ _ _ => (pe_call G (hr.mono (by first | decide | exact Nat.le_refl _)) (by rfl) T.g_copy T.F_copy.kp T.b_copy .nil pass0 (pa_cons (pv 1) pa_nil)))))) pss_nil)
      (pss_cons (ps_if (pt_val (pe_callB call_isi (by rfl) T.z_isinstance (by decide +kernel) (pa_cons (pv 0) (pa_cons (pe_bltn (v := .ty "tuple") (by rfl) T.z_tuple (by decide +kernel) rfl) pa_nil)))) (pss_one (ps_ret (pe_callTy call_tuple_of (by rfl) T.z_tuple (by decide +kernel) (pa_cons (pe_lc (own := [("item", 1)]) (g := gName 1) rfl sc_copy.nd (pi_tup (pv 0)) (blkOk_by (N := ["value", "item"]) (sc := defScope s_copy) (by decide +kernel)) (fun _ _ _ _ _ => pg_name (i := 1) sc_copy.nd rfl (Or.inl rfl)) (fun _ _ _ _ _ => pts_nil) (fun _ _ _ _ _ => (pe_call G (hr.mono (by first | decide | exact Nat.le_refl _)) (by rfl) T.g_copy T.F_copy.kp T.b_copy .nil pass0 (pa_cons (pv 1) pa_nil)))) pa_nil)))) pss_nil)
      (pss_one (ps_ret (pv 0))))), ?_⟩
    rcases dv with ⟨pl, tx, it⟩ | ⟨p, xs, rfl, ne, o, lx, dx⟩
    · have sv : Shal H v := (show Deep a 0 H v from .inl ⟨pl, tx, it⟩).shal
      have done : Q v H := q v H (.refl H) (show Deep a 0 H v from .inl ⟨pl, tx, it⟩).samed (fun b _ d => d)
      cases v with
      | non => exact ⟨_, rfl, _, _, _, _, false, rfl, .ty _, .base .non, kit_ty (by decide +kernel), _, rfl, iteF ⟨_, rfl, _, _, _, _, false, rfl, .ty _, .base .non, kit_ty (by decide +kernel), _, rfl, iteF ⟨_, rfl, done⟩⟩⟩
      | bl b => exact ⟨_, rfl, _, _, _, _, false, rfl, .ty _, .base (.bl b), kit_ty (by decide +kernel), _, rfl, iteF ⟨_, rfl, _, _, _, _, false, rfl, .ty _, .base (.bl b), kit_ty (by decide +kernel), _, rfl, iteF ⟨_, rfl, done⟩⟩⟩
      | int b => exact ⟨_, rfl, _, _, _, _, false, rfl, .ty _, .base (.int b), kit_ty (by decide +kernel), _, rfl, iteF ⟨_, rfl, _, _, _, _, false, rfl, .ty _, .base (.int b), kit_ty (by decide +kernel), _, rfl, iteF ⟨_, rfl, done⟩⟩⟩
      | str b => exact ⟨_, rfl, _, _, _, _, false, rfl, .ty _, .base (.str b), kit_ty (by decide +kernel), _, rfl, iteF ⟨_, rfl, _, _, _, _, false, rfl, .ty _, .base (.str b), kit_ty (by decide +kernel), _, rfl, iteF ⟨_, rfl, done⟩⟩⟩
      | byt b => cases pl
      | flt b => cases pl
      | ref b => cases pl
      | ty b => cases pl
    · rcases o with hp | hp
      · refine ⟨_, rfl, _, _, _, _, true, rfl, .ty _, .base (.lst hp), kit_ty (by decide +kernel), _, rfl, iteT ?_⟩
        have e0 : xs = [] := List.eq_nil_iff_forall_not_mem.mpr fun x m => dx x m
        subst e0
        refine ⟨_, rfl, p, rfl, ⟨_, .inl (.inl hp)⟩, fun D nD => ?_⟩
        refine lc_list (K := K) (a := p) (xs := []) (fun i H' => Same H H' ∧ H' D = some (.lst [])) ⟨same_new nD, upd_same⟩ (fun i H' _ h => .inl (.inl (h.1 _ _ hp))) ?_ ?_
        · rintro i v H1 hv _
          cases hv
        · rintro H1 ⟨s1, hD⟩
          refine q _ _ s1 (.inr ⟨D, p, [], [], rfl, rfl, .inr ⟨hD, s1 _ _ hp⟩, rfl, lx, fun i y x ey ex => by cases ex⟩) (fun b hb db => ?_)
          exact .inr ⟨D, [], rfl, fun e => hb (by rw [← e]; exact nD), .inl hD, lx, fun y m => absurd m List.not_mem_nil⟩
      · refine ⟨_, rfl, _, _, _, _, false, rfl, .ty _, .base (.tup hp), kit_ty (by decide +kernel), _, rfl, iteF ?_⟩
        refine ⟨_, rfl, _, _, _, _, true, rfl, .ty _, .base (.tup hp), kit_ty (by decide +kernel), _, rfl, iteT ?_⟩
        have e0 : xs = [] := List.eq_nil_iff_forall_not_mem.mpr fun x m => dx x m
        subst e0
        refine ⟨_, rfl, p, rfl, ⟨_, .inl (.inl hp)⟩, fun D nD => ?_⟩
        refine lc_tup (K := K) (a := p) (xs := []) (fun i H' => Same H H' ∧ H' D = some (.lst [])) ⟨same_new nD, upd_same⟩ (fun i H' _ h => .inl (.inl (h.1 _ _ hp))) ?_ ?_
        · rintro i v H1 hv _
          cases hv
        · rintro H1 ⟨s1, hD⟩
          refine ⟨D, _, rfl, .inl ⟨.inl (.inl hD), fun t nt => ?_⟩⟩
          have s3 := s1.trans (same_new (o := .tup []) nt)
          refine q _ _ s3 (.inr ⟨t, p, [], [], rfl, rfl, .inl ⟨upd_same, s3 _ _ hp⟩, rfl, lx, fun i y x ey ex => by cases ex⟩) (fun b hb db => ?_)
          exact .inr ⟨t, [], rfl, fun e => hb (by rw [← e]; exact s1.free nt), .inr upd_same, lx, fun y m => absurd m List.not_mem_nil⟩
theorem copy_step {j n : Nat} (T : Txt K mg base) (G : FnOk P w K mg base CX0 j T.f_copy T.fd_copy ["value"] (sp_copyD n)) :
    FnOk P w K mg base CX0 (j + 1) T.f_copy T.fd_copy ["value"] (sp_copyD (n + 1)) := by
  refine T.F_copy.ok sc_copy (fun vs H Q E h => ?_) (fun cdv A outer s H vs Q E hr h => ?_)
  · obtain ⟨v, rfl, _⟩ := h
    rfl
  · obtain ⟨v, rfl, ⟨a, dv⟩, q⟩ := h
    refine ⟨_, (pss_cons (ps_if (pt_val (pe_callB call_isi (by rfl) T.z_isinstance (by decide +kernel) (pa_cons (pv 0) (pa_cons (pe_bltn (v := .ty "list") (by rfl) T.z_list (by decide +kernel) rfl) pa_nil)))) (pss_one (ps_ret (pe_lc (own := [("item", 1)]) (g := gName 1) rfl sc_copy.nd (pi_list (pv 0)) (blkOk_by (N := ["value", "item"]) (sc := defScope s_copy) (by decide +kernel)) (fun _ _ _ _ _ => pg_name (i := 1) sc_copy.nd rfl (Or.inl rfl)) (fun _ _ _ _ _ => pts_nil) (fun _ _ _ _ _ => (pe_call G (hr.mono (by first | decide | exact Nat.le_refl _)) (by rfl) T.g_copy T.F_copy.kp T.b_copy .nil pass0 (pa_cons (pv 1) pa_nil)))))) pss_nil)
      (pss_cons (ps_if (pt_val (pe_callB call_isi (by rfl) T.z_isinstance (by decide +kernel) (pa_cons (pv 0) (pa_cons (pe_bltn (v := .ty "tuple") (by rfl) T.z_tuple (by decide +kernel) rfl) pa_nil)))) (pss_one (ps_ret (pe_callTy call_tuple_of (by rfl) T.z_tuple (by decide +kernel) (pa_cons (pe_lc (own := [("item", 1)]) (g := gName 1) rfl sc_copy.nd (pi_tup (pv 0)) (blkOk_by (N := ["value", "item"]) (sc := defScope s_copy) (by decide +kernel)) (fun _ _ _ _ _ => pg_name (i := 1) sc_copy.nd rfl (Or.inl rfl)) (fun _ _ _ _ _ => pts_nil) (fun _ _ _ _ _ => (pe_call G (hr.mono (by first | decide | exact Nat.le_refl _)) (by rfl) T.g_copy T.F_copy.kp T.b_copy .nil pass0 (pa_cons (pv 1) pa_nil)))) pa_nil)))) pss_nil)
      (pss_one (ps_ret (pv 0))))), ?_⟩
    rcases dv with ⟨pl, tx, it⟩ | ⟨p, xs, rfl, ne, o, lx, dx⟩
    · have sv : Shal H v := (show Deep a (n + 1) H v from .inl ⟨pl, tx, it⟩).shal
      have done : Q v H := q v H (.refl H) (show Deep a (n + 1) H v from .inl ⟨pl, tx, it⟩).samed (fun b _ d => d)
      cases v with
      | non => exact ⟨_, rfl, _, _, _, _, false, rfl, .ty _, .base .non, kit_ty (by decide +kernel), _, rfl, iteF ⟨_, rfl, _, _, _, _, false, rfl, .ty _, .base .non, kit_ty (by decide +kernel), _, rfl, iteF ⟨_, rfl, done⟩⟩⟩
      | bl b => exact ⟨_, rfl, _, _, _, _, false, rfl, .ty _, .base (.bl b), kit_ty (by decide +kernel), _, rfl, iteF ⟨_, rfl, _, _, _, _, false, rfl, .ty _, .base (.bl b), kit_ty (by decide +kernel), _, rfl, iteF ⟨_, rfl, done⟩⟩⟩
      | int b => exact ⟨_, rfl, _, _, _, _, false, rfl, .ty _, .base (.int b), kit_ty (by decide +kernel), _, rfl, iteF ⟨_, rfl, _, _, _, _, false, rfl, .ty _, .base (.int b), kit_ty (by decide +kernel), _, rfl, iteF ⟨_, rfl, done⟩⟩⟩
      | str b => exact ⟨_, rfl, _, _, _, _, false, rfl, .ty _, .base (.str b), kit_ty (by decide +kernel), _, rfl, iteF ⟨_, rfl, _, _, _, _, false, rfl, .ty _, .base (.str b), kit_ty (by decide +kernel), _, rfl, iteF ⟨_, rfl, done⟩⟩⟩
      | byt b => cases pl
      | flt b => cases pl
      | ref b => cases pl
      | ty b => cases pl
    · rcases o with hp | hp
      · refine ⟨_, rfl, _, _, _, _, true, rfl, .ty _, .base (.lst hp), kit_ty (by decide +kernel), _, rfl, iteT ?_⟩
        refine ⟨_, rfl, p, rfl, ⟨_, .inl (.inl hp)⟩, fun D nD => ?_⟩
        have nDp : D ≠ p := fun e => by
          rw [e, hp] at nD
          cases nD
        refine lc_list (K := K) (a := p) (xs := xs) (fun i H' => CopyI n H D xs i H') ⟨same_new nD, [], upd_same, rfl, fun j x y _ hy => by cases hy⟩ (fun i H' _ h => .inl (.inl (h.1 _ _ hp))) ?_ ?_
        · rintro i v H1 hv ⟨s1, ys, hD, ly, c⟩
          have dv : Deep a n H1 v := (dx v (List.mem_of_getElem? hv)).same s1
          refine ⟨rfl, _, rfl, v, rfl, ⟨a, dv⟩, fun u H2 s2 su du => ?_⟩
          have li : i < xs.length := (List.getElem?_eq_some_iff.mp hv).1
          exact ⟨_, s2 _ _ hD, by rw [ly]; exact Nat.lt_of_lt_of_le (by omega : i < 1000000) (by decide), CopyI.step nD s1 hD ly lx hv dx c s2 su du⟩
        · rintro H1 ⟨s1, ys, hD, ly, c⟩
          refine q _ _ s1 (.inr ⟨D, p, ys, xs, rfl, rfl, .inr ⟨hD, s1 _ _ hp⟩, ly, lx, fun i y x ey ex => (c i x y ex ey).1⟩) (fun b hb db => ?_)
          have dI := (deep_ref db (.inl hp)).2 n rfl
          refine deep_lst (fun e => hb (by rw [← e]; exact nD)) hD (by omega) (fun y my => ?_)
          obtain ⟨i, li, ei⟩ := List.mem_iff_getElem.mp my
          have hy : ys[i]? = some y := by rw [List.getElem?_eq_getElem li, ei]
          have hx : xs[i]? = some xs[i] := List.getElem?_eq_getElem (by omega)
          exact (c i _ y hx hy).2.2 b hb (dI _ (List.getElem_mem _))
      · refine ⟨_, rfl, _, _, _, _, false, rfl, .ty _, .base (.tup hp), kit_ty (by decide +kernel), _, rfl, iteF ?_⟩
        refine ⟨_, rfl, _, _, _, _, true, rfl, .ty _, .base (.tup hp), kit_ty (by decide +kernel), _, rfl, iteT ?_⟩
        refine ⟨_, rfl, p, rfl, ⟨_, .inl (.inl hp)⟩, fun D nD => ?_⟩
        have nDp : D ≠ p := fun e => by
          rw [e, hp] at nD
          cases nD
        refine lc_tup (K := K) (a := p) (xs := xs) (fun i H' => CopyI n H D xs i H') ⟨same_new nD, [], upd_same, rfl, fun j x y _ hy => by cases hy⟩ (fun i H' _ h => .inl (.inl (h.1 _ _ hp))) ?_ ?_
        · rintro i v H1 hv ⟨s1, ys, hD, ly, c⟩
          have dv : Deep a n H1 v := (dx v (List.mem_of_getElem? hv)).same s1
          refine ⟨rfl, _, rfl, v, rfl, ⟨a, dv⟩, fun u H2 s2 su du => ?_⟩
          have li : i < xs.length := (List.getElem?_eq_some_iff.mp hv).1
          exact ⟨_, s2 _ _ hD, by rw [ly]; exact Nat.lt_of_lt_of_le (by omega : i < 1000000) (by decide), CopyI.step nD s1 hD ly lx hv dx c s2 su du⟩
        · rintro H1 ⟨s1, ys, hD, ly, c⟩
          refine ⟨D, _, rfl, .inl ⟨.inl (.inl hD), fun t nt => ?_⟩⟩
          have s3 := s1.trans (same_new (o := .tup ys) nt)
          refine q _ _ s3 (.inr ⟨t, p, ys, xs, rfl, rfl, .inl ⟨upd_same, s3 _ _ hp⟩, ly, lx, fun i y x ey ex => SameD.keep (same_new nt) (c i x y ex ey).1⟩) (fun b hb db => ?_)
          have dI := (deep_ref db (.inr hp)).2 n rfl
          refine deep_tup (fun e => hb (by rw [← e]; exact s1.free nt)) upd_same (by omega) (fun y my => ?_)
          obtain ⟨i, li, ei⟩ := List.mem_iff_getElem.mp my
          have hy : ys[i]? = some y := by rw [List.getElem?_eq_getElem li, ei]
          have hx : xs[i]? = some xs[i] := List.getElem?_eq_getElem (by omega)
          exact ((c i _ y hx hy).2.2 b hb (dI _ (List.getElem_mem _))).same (same_new nt)
theorem ok_copyN (T : Txt K mg base) : ∀ n : Nat, FnOk P w K mg base CX0 (n + 1) T.f_copy T.fd_copy ["value"] (sp_copyD n)
  | 0 => copy_zero T
  | n + 1 => copy_step T (ok_copyN T n)
theorem ok_copy (T : Txt K mg base) : FnOk P w K mg base CX0 10 T.f_copy T.fd_copy ["value"] (sp_copyD 9) := ok_copyN T 9

theorem find_abc (c : Nat) : (97 ≤ c ∧ c ≤ 122 ∧ Txt.find (Str.ofString "abcdefghijklmnopqrstuvwxyz") ⟨#[c]⟩ = (c : Int) - 97) ∨ (¬ (97 ≤ c ∧ c ≤ 122) ∧ Txt.find (Str.ofString "abcdefghijklmnopqrstuvwxyz") ⟨#[c]⟩ = -1) := by
  have abc_mem : c ∈ cs abc ↔ 97 ≤ c ∧ c ≤ 122 := by
    rw [cs_abc, List.mem_range'_1]
    omega
  cases e : Txt.index0 abc ⟨#[c]⟩ with
  | none =>
    refine .inr ⟨fun h => index_none e (abc_mem.mpr h), ?_⟩
    unfold Txt.index0 at e
    have e' := List.head?_eq_none_iff.mp e
    show (match Builtin.Str.occurrences abc ⟨#[c]⟩ 0 abc.length 1 with | i :: tail => (i : Int) | [] => -1) = -1
    rw [e']
  | some k =>
    have g := index_sign e
    have lk : k < 26 := by
      have := (List.getElem?_eq_some_iff.mp g).1
      rw [cs_abc, List.length_range'] at this
      exact this
    have ck : c = 97 + k := by
      rw [cs_abc, List.getElem?_range' lk] at g
      have := Option.some.inj g
      omega
    refine .inl ⟨by omega, by omega, ?_⟩
    unfold Txt.index0 at e
    show (match Builtin.Str.occurrences abc ⟨#[c]⟩ 0 abc.length 1 with | i :: tail => (i : Int) | [] => -1) = _
    cases o : Builtin.Str.occurrences abc ⟨#[c]⟩ 0 abc.length 1 with
    | nil => rw [o] at e; cases e
    | cons i tl =>
      rw [o] at e
      have : i = k := Option.some.inj e
      show (i : Int) = _
      omega
def sp_good_letters (_ : PySem.W.Frag) : Sp := fun vs H Q _ => ∃ v : V, vs = [v] ∧ Shal H v ∧ ∀ b : Bool, (b = true ↔ AlphaV v) → Q (.bl b) H
theorem ok_good_letters (T : Txt K mg base) : FnOk P w K mg base CX0 (0 + 1) T.f_good_letters T.fd_good_letters ["value"] (sp_good_letters K) := by
  refine T.F_good_letters.ok sc_good_letters (fun vs H Q E h => ?_) (fun cdv A outer s H vs Q E hr h => ?_)
  · obtain ⟨v, rfl, _⟩ := h
    rfl
  · obtain ⟨v, rfl, sv, q⟩ := h
    refine ⟨_, (pss_cons (ps_if (PW.pt (pw_or (pt_not (pt_val (pe_callB call_isi (by rfl) T.z_isinstance (by decide +kernel) (pa_cons (pv 0) (pa_cons (pe_bltn (v := .ty "str") (by rfl) T.z_str (by decide +kernel) rfl) pa_nil))))) (pw_or (pt_cmpR op_lt (pe_callB call_len_str (by rfl) T.z_len PySem.boot_len (pa_cons (pv 0) pa_nil)) pe_int (nomark _)) (pw_or1 (pt_cmpR op_gt (pe_callB call_len_str (by rfl) T.z_len PySem.boot_len (pa_cons (pv 0) pa_nil)) pe_int (nomark _)))))) (pss_one (ps_ret pe_bl)) pss_nil)
      (pss_cons (ps_set (i := 1) sc_good_letters.nd rfl (.inl rfl) (pe_un un_neg pe_int))
      (pss_cons (ps_for PassesOwn.never rfl (pi_str (pv 0)) (pg_name (i := 2) sc_good_letters.nd rfl (.inl rfl)) (pss_cons (ps_set (i := 3) sc_good_letters.nd rfl (.inl rfl) (pe_m1 PySem.F.slot_str_find PySem.F.type_str_find mt_find pe_str (pv 2)))
      (pss_cons (ps_if (pt_cmpR op_le (pv 3) (pv 1) (nomark _)) (pss_one (ps_ret pe_bl)) pss_nil)
      (pss_one (ps_set (i := 1) sc_good_letters.nd rfl (.inl rfl) (pv 3))))))
      (pss_one (ps_ret pe_bl))))), ?_⟩
    obtain ⟨ty, hty, kt⟩ := isi_str (K := K) sv
    refine ⟨_, rfl, _, _, _, _, _, rfl, .ty _, hty, kt, _, rfl, ?_⟩
    cases hs : isStr v with
    | false =>
      refine iteC rfl (iteC rfl (q false ⟨fun h => (by cases h), fun ⟨x, e, _⟩ => ?_⟩))
      rw [e] at hs
      cases hs
    | true =>
    obtain ⟨x, rfl⟩ := isStr_of hs
    refine iteF ?_
    have bx := sv.text
    refine ⟨_, rfl, x, rfl, small_text bx, _, _, rfl, rfl, _, rfl, ite2 (fun g => ?_) (fun g1 => ?_)⟩
    · refine iteC rfl (q false ⟨fun h => (by cases h), fun ⟨y, e, al⟩ => ?_⟩)
      cases e
      have := of_decide_eq_true g
      have := al.len1
      omega
    refine ⟨_, rfl, x, rfl, small_text bx, _, _, rfl, rfl, _, rfl, ite2 (fun g => ?_) (fun g4 => ?_)⟩
    · refine q false ⟨fun h => (by cases h), fun ⟨y, e, al⟩ => ?_⟩
      cases e
      have := of_decide_eq_true g
      have := al.len4
      omega
    have l1 : 1 ≤ x.length := by
      have : ¬ ((x.length : Int) < 1) := fun z => g1 (decide_eq_true z)
      omega
    have l4 : x.length ≤ 4 := by
      have : ¬ ((4 : Int) < (x.length : Int)) := fun z => g4 (decide_eq_true z)
      omega
    refine ⟨_, rfl, ?_⟩
    refine ⟨_, rfl, x, rfl, for_str (fun i σ H' => ∃ (last : Int) (y3 y4 : Option V), σ = [some (.str x), some (.int last), y3, y4] ∧ H' = H ∧ (∀ c ∈ (cs x).take i, 97 ≤ c ∧ c ≤ 122 ∧ (c : Int) - 97 ≤ last) ∧ ((cs x).take i).Pairwise (· < ·) ∧ (last = -1 ∨ ∃ c ∈ (cs x).take i, (c : Int) - 97 = last))
      ⟨-1, none, none, rfl, rfl, fun c m => by simp at m, by simp, .inl rfl⟩ ?_ ?_⟩
    · rintro i c σ H' hc ⟨last, y3, y4, rfl, rfl, low, asc, ex⟩
      have tk : (cs x).take (i + 1) = (cs x).take i ++ [c] := by
        rw [List.take_add_one, hc]
        rfl
      have sub : ((cs x).take (i + 1)).Sublist (cs x) := List.take_sublist _ _
      refine ⟨⟨_, rfl⟩, _, rfl, _, _, rfl, rfl, ?_⟩
      refine ⟨_, rfl, _, rfl, _, _, rfl, rfl, _, rfl, ite2 (fun g => ?_) (fun g => ?_)⟩
      · refine q false ⟨fun h => (by cases h), fun ⟨y, e, al⟩ => ?_⟩
        cases e
        exfalso
        have lo := al.low c (List.mem_of_getElem? hc)
        have le := of_decide_eq_true g
        rcases find_abc c with ⟨_, _, f⟩ | ⟨n, _⟩
        · rw [f] at le
          rcases ex with e | ⟨d, hd, e⟩
          · omega
          · have p := al.asc.sublist sub
            rw [tk] at p
            have := (List.pairwise_append.mp p).2.2 d hd c (List.mem_singleton.mpr rfl)
            omega
        · exact n lo
      · have gt : ¬ Txt.find (Str.ofString "abcdefghijklmnopqrstuvwxyz") ⟨#[c]⟩ ≤ last := fun z => g (decide_eq_true z)
        have l0 : -1 ≤ last := by
          rcases ex with e | ⟨d, hd, e⟩
          · omega
          · have := low d hd
            omega
        rcases find_abc c with ⟨c1, c2, f⟩ | ⟨_, f⟩
        · rw [f] at gt
          refine ⟨_, rfl, _, _, _, rfl, rfl, ?_, ?_, .inr ⟨c, ?_, f.symm⟩⟩
          · intro d hd
            rw [f]
            rw [tk] at hd
            rcases List.mem_append.mp hd with h | h
            · have := low d h
              omega
            · have := List.mem_singleton.mp h
              omega
          · rw [tk]
            refine List.pairwise_append.mpr ⟨asc, List.pairwise_singleton _ _, fun d hd e he => ?_⟩
            have := low d hd
            have := List.mem_singleton.mp he
            omega
          · rw [tk]
            exact List.mem_append_right _ (List.mem_singleton.mpr rfl)
        · rw [f] at gt
          omega
    · rintro σ H' ⟨last, y3, y4, rfl, rfl, low, asc, ex⟩
      rw [List.take_length] at low asc
      exact q true ⟨fun _ => ⟨x, rfl, ⟨asc, fun c hc => ⟨(low c hc).1, (low c hc).2.1⟩, l1, l4⟩⟩, fun _ => rfl⟩

def sp_good_name (_ : PySem.W.Frag) : Sp := fun vs H Q _ => ∃ v : V, vs = [v] ∧ Shal H v ∧ ∀ b : Bool, (b = true ↔ NameV v) → Q (.bl b) H
theorem ok_good_name (T : Txt K mg base) : FnOk P w K mg base CX0 (0 + 1) T.f_good_name T.fd_good_name ["value"] (sp_good_name K) := by
  refine T.F_good_name.ok sc_good_name (fun vs H Q E h => ?_) (fun cdv A outer s H vs Q E hr h => ?_)
  · obtain ⟨v, rfl, _⟩ := h
    rfl
  · obtain ⟨v, rfl, sv, q⟩ := h
    refine ⟨_, (pss_cons (ps_if (PW.pt (pw_or (pt_not (pt_val (pe_callB call_isi (by rfl) T.z_isinstance (by decide +kernel) (pa_cons (pv 0) (pa_cons (pe_bltn (v := .ty "str") (by rfl) T.z_str (by decide +kernel) rfl) pa_nil))))) (pw_or (pt_cmpR op_lt (pe_callB call_len_str (by rfl) T.z_len PySem.boot_len (pa_cons (pv 0) pa_nil)) pe_int (nomark _)) (pw_or1 (pt_cmpR op_gt (pe_callB call_len_str (by rfl) T.z_len PySem.boot_len (pa_cons (pv 0) pa_nil)) pe_int (nomark _)))))) (pss_one (ps_ret pe_bl)) pss_nil)
      (pss_cons (ps_set (i := 1) sc_good_name.nd rfl (.inl rfl) pe_str)
      (pss_cons (ps_for PassesOwn.never rfl (pi_range1 (by rfl) T.z_range (pa_cons (pe_callB call_len_str (by rfl) T.z_len PySem.boot_len (pa_cons (pv 0) pa_nil)) pa_nil)) (pg_name (i := 2) sc_good_name.nd rfl (.inl rfl)) (pss_one (ps_if (pt_cmpR op_lt (pe_m1 PySem.F.slot_str_find PySem.F.type_str_find mt_find (pv 1) (pe_ix ix_str (pv 0) (pv 2) (fun _ _ => rfl))) (pe_op op_sub pe_int (pe_op op_mul pe_int (pe_callB (call_min2 rfl) (by rfl) T.z_min (by decide +kernel) (pa_cons pe_int (pa_cons (pv 2) pa_nil))))) (nomark _)) (pss_one (ps_ret pe_bl)) pss_nil)))
      (pss_one (ps_ret pe_bl))))), ?_⟩
    obtain ⟨ty, hty, kt⟩ := isi_str (K := K) sv
    refine ⟨_, rfl, _, _, _, _, _, rfl, .ty _, hty, kt, _, rfl, ?_⟩
    cases hs : isStr v with
    | false =>
      refine iteC rfl (iteC rfl (q false ⟨fun h => (by cases h), fun ⟨x, e, _⟩ => ?_⟩))
      rw [e] at hs
      cases hs
    | true =>
    obtain ⟨x, rfl⟩ := isStr_of hs
    refine iteF ?_
    have bx := sv.text
    refine ⟨_, rfl, x, rfl, small_text bx, _, _, rfl, rfl, _, rfl, ite2 (fun g => ?_) (fun g1 => ?_)⟩
    · refine iteC rfl (q false ⟨fun h => (by cases h), fun ⟨y, e, n⟩ => ?_⟩)
      cases e
      have := of_decide_eq_true g
      have := n.1
      omega
    refine ⟨_, rfl, x, rfl, small_text bx, _, _, rfl, rfl, _, rfl, ite2 (fun g => ?_) (fun g4 => ?_)⟩
    · refine q false ⟨fun h => (by cases h), fun ⟨y, e, n⟩ => ?_⟩
      cases e
      have := of_decide_eq_true g
      have := n.2.1
      omega
    have l1 : 1 ≤ x.length := by
      have : ¬ ((x.length : Int) < 1) := fun z => g1 (decide_eq_true z)
      omega
    have l4 : x.length ≤ 12 := by
      have : ¬ ((12 : Int) < (x.length : Int)) := fun z => g4 (decide_eq_true z)
      omega
    have ev : cs (Str.ofString "0123456789abcdefghijklmnopqrstuvwxyz") = cs (Str.ofString "0123456789") ++ cs abc := by decide +kernel
    have ten : (cs (Str.ofString "0123456789")).length = 10 := by decide +kernel
    have nd : (cs (Str.ofString "0123456789abcdefghijklmnopqrstuvwxyz")).Nodup := by decide +kernel
    refine ⟨_, rfl, x, rfl, small_text bx, (x.length : Int), rfl, by omega, by omega, ?_⟩
    refine for_range (lo := 0) (n := (x.length : Int).toNat) (fun i σ H' => ∃ y : Option V, σ = [some (.str x), some (.str (Str.ofString "0123456789abcdefghijklmnopqrstuvwxyz")), y] ∧ H' = H ∧ (∀ c ∈ (cs x).take i, c ∈ cs abc ∨ c ∈ cs (Str.ofString "0123456789")) ∧ (0 < i → ∀ c, (cs x)[0]? = some c → c ∈ cs abc)) ⟨none, rfl, rfl, fun c m => by simp at m, fun z => by omega⟩ ?_ ?_
    · rintro i σ H' hn ⟨y, rfl, rfl, al, fi⟩
      have hi : i < (cs x).length := by
        rw [cs_len]
        exact hn
      have hc : (cs x)[i]? = some (cs x)[i] := List.getElem?_eq_getElem hi
      have atc := atI_nat hc
      have atc' : atI (cs x) (0 + (i : Int)) = some (cs x)[i] := by rw [Int.zero_add]; exact atc
      refine ⟨_, rfl, ⟨_, rfl⟩, _, rfl, _, rfl, x, _, _, rfl, rfl, small_text bx, atc', _, _, rfl, rfl, ?_⟩
      have T0 : (10 : Int) - 10 * (if (0 + (i : Int)) < 1 then (0 + (i : Int)) else 1) = if i = 0 then 10 else 0 := by
        by_cases z : i = 0
        · subst z
          rfl
        · rw [if_neg z, if_neg (by omega)]
          rfl
      refine ⟨_, rfl, _, _, rfl, _, _, rfl, rfl, .inl ⟨by decide, by decide⟩, _, _, rfl, rfl, _, _, rfl, rfl, _, rfl, ite2 (fun g => ?_) (fun g => ?_)⟩
      · have g := of_decide_eq_true g
        rw [T0] at g
        refine q false ⟨fun h => (by cases h), fun ⟨y', e, n⟩ => ?_⟩
        cases e
        exfalso
        have all := n.2.2.2 _ (List.mem_of_getElem? hc)
        have inn : (cs x)[i] ∈ cs (Str.ofString "0123456789abcdefghijklmnopqrstuvwxyz") := by
          rw [ev]
          exact all.elim (fun h => List.mem_append_right _ h) (fun h => List.mem_append_left _ h)
        rcases find_at nd (c := (cs x)[i]) with ⟨no, _⟩ | ⟨k, hk, f⟩
        · exact no inn
        · rw [f] at g
          by_cases z : i = 0
          · subst z
            rw [if_pos rfl] at g
            have k10 : k < (cs (Str.ofString "0123456789")).length := by omega
            rw [ev, List.getElem?_append_left k10] at hk
            have fa := n.2.2.1 _ hc
            rw [ev] at nd
            exact (List.nodup_append.mp nd).2.2 _ (List.mem_of_getElem? hk) _ fa rfl
          · rw [if_neg z] at g
            omega
      · have g : ¬ Txt.find (Str.ofString "0123456789abcdefghijklmnopqrstuvwxyz") ⟨#[(cs x)[i]]⟩ < (if i = 0 then 10 else 0) := fun h => g (decide_eq_true (by rw [T0]; exact h))
        have tk : (cs x).take (i + 1) = (cs x).take i ++ [(cs x)[i]] := by
          rw [List.take_add_one, hc]
          rfl
        rcases find_at nd (c := (cs x)[i]) with ⟨no, f⟩ | ⟨k, hk, f⟩
        · exfalso
          rw [f] at g
          by_cases z : i = 0
          · rw [if_pos z] at g
            omega
          · rw [if_neg z] at g
            omega
        · rw [f] at g
          have inn : (cs x)[i] ∈ cs abc ∨ (cs x)[i] ∈ cs (Str.ofString "0123456789") := by
            have := List.mem_of_getElem? hk
            rw [ev] at this
            exact (List.mem_append.mp this).symm
          refine ⟨_, rfl, rfl, fun c m => ?_, fun _ c e0 => ?_⟩
          · rw [tk] at m
            rcases List.mem_append.mp m with m | m
            · exact al c m
            · rw [List.mem_singleton.mp m]
              exact inn
          · by_cases z : i = 0
            · subst z
              rw [if_pos rfl] at g
              rw [hc] at e0
              have e0 := Option.some.inj e0
              rw [← e0]
              rw [ev, List.getElem?_append_right (by omega)] at hk
              exact List.mem_of_getElem? hk
            · exact fi (by omega) c e0
    · rintro σ H' ⟨y, rfl, rfl, al, fi⟩
      have e : (cs x).take (x.length : Int).toNat = cs x := List.take_of_length_le (by rw [cs_len]; omega)
      rw [e] at al
      exact q true ⟨fun _ => ⟨x, rfl, l1, l4, fi (by omega), al⟩, fun _ => rfl⟩

/-- an alphabet; the store moves on, all else stands -/
def sp_letters (_ : PySem.W.Frag) : Sp := fun vs H Q _ => ∃ (a ca : Addr) (n : Int), vs = [.ref a, .int n] ∧ Sto H a ca ∧
  ∀ (z : Str) (H' : Hp), IsAlpha z → But a H H' → Sto H' a ca → Q (.str z) H'
theorem ok_letters (T : Txt K mg base) : FnOk P w K mg base CX0 (2 + 1) T.f_letters T.fd_letters ["store", "limit"] (sp_letters K) := by
  refine T.F_letters.ok sc_letters (fun vs H Q E h => ?_) (fun cdv A outer s H vs Q E hr h => ?_)
  · obtain ⟨a, ca, n, rfl, _⟩ := h
    rfl
  · obtain ⟨a, ca, n, rfl, S, q⟩ := h
    refine ⟨_, (pss_cons (ps_set (i := 2) sc_letters.nd rfl (.inl rfl) (pe_op op_add pe_int (pe_call (ok_take T) (hr.mono (by first | decide | exact Nat.le_refl _)) (by rfl) T.g_take T.F_take.kp T.b_take .nil pass0 (pa_cons (pv 0) (pa_cons (pe_callB (call_max2 rfl) (by rfl) T.z_max (by decide +kernel) (pa_cons pe_int (pa_cons (pe_callB (call_min2 rfl) (by rfl) T.z_min (by decide +kernel) (pa_cons pe_int (pa_cons (pv 1) pa_nil))) pa_nil))) pa_nil)))))
      (pss_cons (ps_set (i := 3) sc_letters.nd rfl (.inl rfl) pe_str)
      (pss_cons (ps_set (i := 4) sc_letters.nd rfl (.inl rfl) (pe_call (ok_take T) (hr.mono (by first | decide | exact Nat.le_refl _)) (by rfl) T.g_take T.F_take.kp T.b_take .nil pass0 (pa_cons (pv 0) (pa_cons pe_int pa_nil))))
      (pss_cons (ps_if (pt_cmpR op_eq (pv 4) pe_int (nomark _)) (pss_one (ps_ret (pe_slice sl_str (pv 3) po_none (po_some (pv 2))))) pss_nil)
      (pss_cons (ps_if (pt_cmpR op_eq (pv 4) pe_int (nomark _)) (pss_one (ps_ret (pe_slice sl_str (pv 3) (po_some (pe_op op_sub pe_int (pv 2))) po_none))) pss_nil)
      (pss_cons (ps_set (i := 5) sc_letters.nd rfl (.inl rfl) (pe_un un_neg pe_int))
      (pss_cons (ps_set (i := 6) sc_letters.nd rfl (.inl rfl) pe_str)
      (pss_cons (ps_for PassesOwn.never rfl (pi_range1 (by rfl) T.z_range (pa_cons (pv 2) pa_nil)) (pg_name (i := 7) sc_letters.nd rfl (.inl rfl)) (pss_cons (ps_set (i := 5) sc_letters.nd rfl (.inl rfl) (pe_op op_add (pe_op op_add (pv 5) pe_int) (pe_call (ok_take T) (hr.mono (by first | decide | exact Nat.le_refl _)) (by rfl) T.g_take T.F_take.kp T.b_take .nil pass0 (pa_cons (pv 0) (pa_cons (pe_op op_sub (pe_op op_add (pe_op op_sub pe_int (pv 2)) (pv 7)) (pv 5)) pa_nil)))))
      (pss_one (ps_set (i := 6) sc_letters.nd rfl (.inl rfl) (pe_op op_add_str (pv 6) (pe_ix ix_str (pv 3) (pv 5) (fun _ _ => rfl)))))))
      (pss_one (ps_ret (pv 6))))))))))), ?_⟩
    have hm : (if (if n < 4 then n else 4) > 1 then (if n < 4 then n else 4) else 1) ≤ 4 ∧ 1 ≤ (if (if n < 4 then n else 4) > 1 then (if n < 4 then n else 4) else 1) := by
      split <;> split <;> omega
    refine ⟨_, rfl, _, rfl, _, _, rfl, _, _, rfl, a, ca, _, rfl, S, Int.lt_of_le_of_lt hm.1 (by decide), fun d H1 d0 d1 B1 S1 => ?_⟩
    have d4 : d < 4 := by
      have e1 : d < (if (if n < 4 then n else 4) > 1 then (if n < 4 then n else 4) else 1) ∨ d = 0 := d1
      omega
    obtain ⟨j, rfl⟩ := Int.eq_ofNat_of_zero_le d0
    have hj : j < 4 := by omega
    refine ⟨_, _, rfl, rfl, _, rfl, a, ca, 4, rfl, S1, by decide, fun e H2 e0 e1 B2 S2 => ?_⟩
    have B12 := B1.trans B2
    refine ⟨_, rfl, rfl, _, rfl, ite2 (fun g1 => ?_) (fun g1 => ?_)⟩
    · -- every[:size]
      refine ⟨_, rfl, _, rfl, _, rfl, abc, rfl, small_text (by rw [len_abc]; decide), ?_⟩
      have e : (1 : Int) + (j : Int) = ((1 + j : Nat) : Int) := by omega
      show Q (.str (cutS abc none (some (1 + (j : Int))))) H2
      rw [e]
      exact q _ _ (abc_upto (by omega) (by omega)) B12 S2
    · refine ⟨_, rfl, rfl, _, rfl, ite2 (fun g2 => ?_) (fun g2 => ?_)⟩
      · -- every[26 - size:]
        refine ⟨_, rfl, _, rfl, _, _, rfl, rfl, _, rfl, abc, rfl, small_text (by rw [len_abc]; decide), ?_⟩
        have e : (26 : Int) - (1 + (j : Int)) = ((25 - j : Nat) : Int) := by omega
        show Q (.str (cutS abc (some (26 - (1 + (j : Int)))) none)) H2
        rw [e]
        exact q _ _ (abc_from (by omega) (by omega)) B12 S2
      · refine ⟨_, rfl, _, rfl, _, rfl, by show -(2 ^ 62 : Int) ≤ 1 + (j : Int); omega, by show 1 + (j : Int) < 2 ^ 62; omega, ?_⟩
        have ej : ((1 : Int) + (j : Int)).toNat = j + 1 := by omega
        refine for_range (lo := 0) (n := ((1 : Int) + (j : Int)).toNat) (fun i σ H' => ∃ (at_ : Int) (v : Str) (y : Option V), σ = [some (.ref a), some (.int n), some (.int (1 + (j : Int))), some (.str abc), some (.int e), some (.int at_), some (.str v), y] ∧
          But a H H' ∧ Sto H' a ca ∧ -1 ≤ at_ ∧ at_ ≤ 25 - (1 + (j : Int)) + (i : Int) ∧ v.length = i ∧ (cs v).Pairwise (· < ·) ∧ ∀ c ∈ cs v, 97 ≤ c ∧ (c : Int) ≤ 97 + at_) ?_ ?_ ?_
        · refine ⟨-1, Str.ofString "", none, rfl, B12, S2, by decide, by omega, by decide +kernel, ?_, fun c m => ?_⟩
          · rw [cs_empty]
            exact .nil
          · rw [cs_empty] at m
            exact absurd m List.not_mem_nil
        · rintro i σ H3 hi ⟨at_, v, y, rfl, B3, S3, a0, a1, hl, hp, hc⟩
          have hi' : i < j + 1 := by rw [← ej]; exact hi
          refine ⟨_, rfl, _, _, rfl, rfl, _, rfl, _, rfl, _, _, rfl, rfl, _, rfl, _, _, rfl, rfl, _, rfl, _, _, rfl, rfl, a, ca, _, rfl, S3, by show 26 - (1 + (j : Int)) + (0 + (i : Int)) - at_ < 1073741824; omega, fun f H4 f0 f1 B4 S4 => ?_⟩
          have f1' : f < 26 - (1 + (j : Int)) + (0 + (i : Int)) - at_ ∨ f = 0 := f1
          have k0 : 0 ≤ at_ + 1 + f := by omega
          have k1 : at_ + 1 + f ≤ 25 - (1 + (j : Int)) + ((i : Int) + 1) := by omega
          obtain ⟨g, eg⟩ := Int.eq_ofNat_of_zero_le k0
          have hg : g < 26 := by omega
          have hat : atI (cs abc) (at_ + 1 + f) = some (97 + g) := by
            rw [eg, cs_abc]
            refine atI_nat ?_
            rw [List.getElem?_range' hg]
            simp
          refine ⟨_, _, rfl, rfl, _, rfl, _, rfl, _, rfl, abc, _, _, rfl, rfl, small_text (by rw [len_abc]; decide), hat, _, _, rfl, rfl, ?_, ?_⟩
          · refine small_text ?_
            show v.length + 1 ≤ 1000000
            omega
          · refine ⟨at_ + 1 + f, v ++ ⟨#[97 + g]⟩, _, rfl, B3.trans B4, S4, by omega, by omega, ?_, ?_, fun c m => ?_⟩
            · rw [length_app, hl]
              rfl
            · rw [cs_app, cs_one]
              refine List.pairwise_append.mpr ⟨hp, List.pairwise_singleton _ _, fun x hx y hy => ?_⟩
              rw [List.mem_singleton.mp hy]
              have := hc x hx
              omega
            · rw [cs_app, cs_one] at m
              rcases List.mem_append.mp m with m | m
              · have := hc c m
                omega
              · rw [List.mem_singleton.mp m]
                omega
        · rintro σ H3 ⟨at_, v, y, rfl, B3, S3, a0, a1, hl, hp, hc⟩
          refine ⟨_, rfl, q v H3 ⟨hp, fun c m => ?_, ?_, ?_⟩ B3 S3⟩
          · have := hc c m
            omega
          · omega
          · omega

def sp_between (_ : PySem.W.Frag) : Sp := fun vs H Q _ => ∃ (a ca : Addr) (lo hi : Int), vs = [.ref a, .int lo, .int hi] ∧ Sto H a ca ∧ hi - lo < 1000000000 ∧
  ∀ (r : Int) (H' : Hp), lo ≤ r → (r ≤ hi ∨ r = lo) → But a H H' → Sto H' a ca → Q (.int r) H'
theorem ok_between (T : Txt K mg base) : FnOk P w K mg base CX0 (2 + 1) T.f_between T.fd_between ["store", "low", "high"] (sp_between K) := by
  refine T.F_between.ok sc_between (fun vs H Q E h => ?_) (fun cdv A outer s H vs Q E hr h => ?_)
  · obtain ⟨a, ca, lo, hi, rfl, _⟩ := h
    rfl
  · obtain ⟨a, ca, lo, hi, rfl, S, hd, q⟩ := h
    refine ⟨_, (pss_cons (ps_set (i := 3) sc_between.nd rfl (.inl rfl) (pe_call (ok_take T) (hr.mono (by first | decide | exact Nat.le_refl _)) (by rfl) T.g_take T.F_take.kp T.b_take .nil pass0 (pa_cons (pv 0) (pa_cons pe_int pa_nil))))
      (pss_cons (ps_if (PW.pt (pw_or (pt_cmpR op_eq (pv 3) pe_int (nomark _)) (pw_or1 (pt_cmpR op_lt (pv 2) (pv 1) (nomark _))))) (pss_one (ps_ret (pv 1))) pss_nil)
      (pss_cons (ps_if (pt_cmpR op_eq (pv 3) pe_int (nomark _)) (pss_one (ps_ret (pv 2))) pss_nil)
      (pss_one (ps_ret (pe_op op_add (pv 1) (pe_call (ok_take T) (hr.mono (by first | decide | exact Nat.le_refl _)) (by rfl) T.g_take T.F_take.kp T.b_take .nil pass0 (pa_cons (pv 0) (pa_cons (pe_op op_add (pe_op op_sub (pv 2) (pv 1)) pe_int) pa_nil))))))))), ?_⟩
    refine ⟨_, rfl, a, ca, 6, rfl, S, by decide, fun d H1 d0 d1 B1 S1 => ?_⟩
    refine ⟨_, rfl, rfl, _, rfl, ite2 (fun g1 => ?_) (fun g1 => ?_)⟩
    · exact ⟨_, rfl, q _ _ (Int.le_refl _) (.inr rfl) B1 S1⟩
    · refine ⟨_, rfl, _, rfl, _, _, rfl, rfl, _, rfl, ite2 (fun g2 => ?_) (fun g2 => ?_)⟩
      · exact ⟨_, rfl, q _ _ (Int.le_refl _) (.inr rfl) B1 S1⟩
      · have g2' : lo ≤ hi := by
          have := of_decide_eq_false (Bool.not_eq_true _ ▸ g2 : decide (hi < lo) = false)
          omega
        refine ⟨_, rfl, rfl, _, rfl, ite2 (fun g3 => ?_) (fun g3 => ?_)⟩
        · exact ⟨_, rfl, q _ _ g2' (.inl (Int.le_refl _)) B1 S1⟩
        · refine ⟨_, rfl, _, rfl, _, rfl, _, rfl, _, _, rfl, rfl, _, _, rfl, rfl, a, ca, _, rfl, S1, by show hi - lo + 1 < _; omega, fun e H2 e0 e1 B2 S2 => ?_⟩
          have e1' : e < hi - lo + 1 ∨ e = 0 := e1
          exact ⟨_, _, rfl, rfl, q _ _ (by omega) (by omega) (B1.trans B2) S2⟩

def sp_name (_ : PySem.W.Frag) : Sp := fun vs H Q _ => ∃ (a ca : Addr), vs = [.ref a] ∧ Sto H a ca ∧ ∀ (x : Str) (H' : Hp), x.length ≤ 12 → But a H H' → Sto H' a ca → Q (.str x) H'
theorem ok_name (T : Txt K mg base) : FnOk P w K mg base CX0 (3 + 1) T.f_name T.fd_name ["store"] (sp_name K) := by
  refine T.F_name.ok sc_name (fun vs H Q E h => ?_) (fun cdv A outer s H vs Q E hr h => ?_)
  · obtain ⟨a, ca, rfl, _⟩ := h
    rfl
  · obtain ⟨a, ca, rfl, S, q⟩ := h
    refine ⟨_, (pss_cons (ps_set (i := 1) sc_name.nd rfl (.inr rfl) pe_str)
      (pss_cons (ps_set (i := 2) sc_name.nd rfl (.inl rfl) (pe_call (ok_between T) (hr.mono (by first | decide | exact Nat.le_refl _)) (by rfl) T.g_between T.F_between.kp T.b_between .nil pass0 (pa_cons (pv 0) (pa_cons pe_int (pa_cons pe_int pa_nil)))))
      (pss_one (ps_ret (pe_op op_add_str (pe_ix ix_str (pv 1) (pe_call (ok_take T) (hr.mono (by first | decide | exact Nat.le_refl _)) (by rfl) T.g_take T.F_take.kp T.b_take .nil pass0 (pa_cons (pv 0) (pa_cons pe_int pa_nil))) (fun _ _ => rfl)) (pe_join pe_str (pe_lc (own := [("k", 3)]) (g := gName 3) rfl sc_name.nd (pi_range1 (by rfl) T.z_range (pa_cons (pe_op op_sub (pv 2) pe_int) pa_nil)) (blkOk_by (N := ["store", "rest", "size", "k"]) (sc := defScope s_name) (by decide +kernel)) (fun _ _ _ _ _ => pg_name (i := 3) sc_name.nd rfl (Or.inl rfl)) (fun _ _ _ _ _ => pts_nil) (fun _ _ _ _ _ => (pe_call (ok_pick T) (hr.mono (by first | decide | exact Nat.le_refl _)) (by rfl) T.g_pick T.F_pick.kp T.b_pick .nil pass0 (pa_cons (pv 0) (pa_cons (pv 1) pa_nil))))))))))), ?_⟩
    have rest36 : (Str.ofString "abcdefghijklmnopqrstuvwxyz0123456789").length = 36 := by decide +kernel
    refine ⟨_, rfl, a, ca, 1, 12, rfl, S, by decide, fun r H1 r0 r1 B1 S1 => ?_⟩
    have r12 : r ≤ 12 := by omega
    have rest36 : (cs (Str.ofString "abcdefghijklmnopqrstuvwxyz0123456789")).length = 36 := by decide +kernel
    have rest36' : (Str.ofString "abcdefghijklmnopqrstuvwxyz0123456789").length = 36 := by decide +kernel
    refine ⟨_, rfl, _, rfl, a, ca, 26, rfl, S1, by decide, fun d H2 d0 d1 B2 S2 => ?_⟩
    obtain ⟨j, rfl⟩ := Int.eq_ofNat_of_zero_le d0
    have hj : j < (cs (Str.ofString "abcdefghijklmnopqrstuvwxyz0123456789")).length := by omega
    refine ⟨_, _, (cs (Str.ofString "abcdefghijklmnopqrstuvwxyz0123456789"))[j], rfl, rfl, small_text (by rw [rest36']; decide), atI_nat (List.getElem?_eq_getElem hj), ?_⟩
    refine ⟨⟨_, rfl⟩, _, rfl, _, _, rfl, rfl, r - 1, rfl, by show -(2 ^ 62 : Int) ≤ r - 1; omega, by show r - 1 < 2 ^ 62; omega, fun D hD => ?_⟩
    have hDa : D ≠ a := (S2.ne hD).1
    refine lc_range (lo := 0) (n := (r - 1).toNat) (fun i H' => ∃ ys : List Str, H' D = some (.lst (ys.map V.str)) ∧ ys.length = i ∧ (∀ y ∈ ys, ∃ c, y = (⟨#[c]⟩ : Str)) ∧ But a H H' ∧ Sto H' a ca) ?_ ?_ ?_
    · exact ⟨[], upd_same, rfl, fun y m => absurd m List.not_mem_nil, (B1.trans B2).trans (But.new hD), S2.new hD⟩
    · rintro i H' hi ⟨ys, h1, h2, h3, B, S'⟩
      refine ⟨rfl, ?_⟩
      refine ⟨_, rfl, _, rfl, a, ca, S', .inl ⟨_, rfl, by rw [rest36']; decide, by rw [rest36']; decide, fun c H3 hc B3 S3 => ?_⟩⟩
      refine ⟨_, B3 _ _ hDa h1, ?_, ys ++ [⟨#[c]⟩], ?_, ?_, ?_, ?_, ?_⟩
      · rw [List.length_map, h2]
        have hi' : i < (r - 1).toNat := hi
        exact Nat.lt_of_lt_of_le (by omega : i < 1000000) (by decide)
      · rw [upd_same, List.map_append]
        rfl
      · rw [List.length_append, h2]
        rfl
      · intro y m
        rcases List.mem_append.mp m with m | m
        · exact h3 y m
        · exact ⟨c, List.mem_singleton.mp m⟩
      · exact (B1.trans B2).grown hD (B.trans B3) (B3 _ _ hDa h1)
      · exact S3.put (S2.ne hD)
    · rintro H' ⟨ys, h1, h2, h3, B, S'⟩
      have sum1 := signs_len h3
      have hl : ys.length ≤ 11 := by
        have : ys.length = (r - 1).toNat := h2
        omega
      have lj : (Txt.join (Str.ofString "") ys).length = ys.length := by rw [join0_len, sum1]
      refine ⟨_, _, ys, rfl, rfl, .inl (.inl (.inl h1)), ?_, ?_⟩
      · rw [sum1]
        show ys.length + ys.length * 0 ≤ 16777216
        omega
      · refine ⟨_, _, rfl, rfl, ?_, q _ _ ?_ B S'⟩
        · rw [lj]
          exact small_text (show 1 + ys.length ≤ 1000000 by omega)
        · rw [length_app, lj]
          show 1 + ys.length ≤ 12
          omega

def sp_big (_ : PySem.W.Frag) : Sp := fun vs H Q _ => ∃ a ca : Addr, vs = [.ref a] ∧ Sto H a ca ∧ ∀ (n : Int) (H' : Hp), n.natAbs ≤ 10 ^ 60 → But a H H' → Sto H' a ca → Q (.int n) H'
theorem ok_big (T : Txt K mg base) : FnOk P w K mg base CX0 (2 + 1) T.f_big T.fd_big ["store"] (sp_big K) := by
  refine T.F_big.ok sc_big (fun vs H Q E h => ?_) (fun cdv A outer s H vs Q E hr h => ?_)
  · obtain ⟨a, ca, rfl, _⟩ := h
    rfl
  · obtain ⟨a, ca, rfl, S, q⟩ := h
    refine ⟨_, (pss_cons (ps_set (i := 1) sc_big.nd rfl (.inl rfl) (pe_call (ok_take T) (hr.mono (by first | decide | exact Nat.le_refl _)) (by rfl) T.g_take T.F_take.kp T.b_take .nil pass0 (pa_cons (pv 0) (pa_cons pe_int pa_nil))))
      (pss_cons (ps_if (pt_cmpR op_lt (pv 1) pe_int (nomark _)) (pss_one (ps_ret (pe_ix ix_list (pe_lst (pa_cons pe_int (pa_cons pe_int (pa_cons (pe_un un_neg pe_int) (pa_cons (pe_op op_pow pe_int pe_int) (pa_cons (pe_op op_sub (pe_op op_pow pe_int pe_int) pe_int) (pa_cons (pe_op op_sub pe_int (pe_op op_pow pe_int pe_int)) pa_nil))))))) (pv 1) (fun _ _ => rfl)))) pss_nil)
      (pss_cons (ps_set (i := 2) sc_big.nd rfl (.inl rfl) pe_int)
      (pss_cons (ps_for PassesOwn.never rfl (pi_range1 (by rfl) T.z_range (pa_cons (pe_op op_add pe_int (pe_call (ok_take T) (hr.mono (by first | decide | exact Nat.le_refl _)) (by rfl) T.g_take T.F_take.kp T.b_take .nil pass0 (pa_cons (pv 0) (pa_cons pe_int pa_nil)))) pa_nil)) (pg_name (i := 3) sc_big.nd rfl (.inl rfl)) (pss_one (ps_set (i := 2) sc_big.nd rfl (.inl rfl) (pe_op op_add (pe_op op_mulW (pv 2) pe_int) (pe_call (ok_take T) (hr.mono (by first | decide | exact Nat.le_refl _)) (by rfl) T.g_take T.F_take.kp T.b_take .nil pass0 (pa_cons (pv 0) (pa_cons pe_int pa_nil)))))))
      (pss_cons (ps_if (pt_cmpR op_eq (pv 1) pe_int (nomark _)) (pss_one (ps_ret (pe_op op_sub pe_int (pv 2)))) pss_nil)
      (pss_one (ps_ret (pv 2)))))))), ?_⟩
    refine ⟨_, rfl, a, ca, 9, rfl, S, by decide, fun d H1 d0 d1 B1 S1 => ?_⟩
    refine ⟨_, rfl, _, _, rfl, rfl, _, rfl, ite2 (fun g => ?_) (fun g => ?_)⟩
    · refine ⟨_, rfl, _, _, rfl, rfl, ⟨by decide, by decide, by decide⟩, ?_⟩
      refine ⟨_, _, rfl, rfl, ⟨by decide, by decide, by decide⟩, _, _, rfl, rfl, _, _, rfl, rfl, ⟨by decide, by decide, by decide⟩, _, _, rfl, rfl, ?_⟩
      refine ⟨by show 6 ≤ sizeLine; decide, fun p np => ?_⟩
      have d6 : d < 6 := of_decide_eq_true g
      obtain ⟨j, rfl⟩ := Int.eq_ofNat_of_zero_le d0
      have S2 := S1.new (o := .lst [.int 0, .int 1, .int (-1), .int (10 ^ 18), .int (10 ^ 60 - 1), .int (1 - 10 ^ 60)]) np
      have B2 : But a H (upd H1 p (.lst [.int 0, .int 1, .int (-1), .int (10 ^ 18), .int (10 ^ 60 - 1), .int (1 - 10 ^ 60)])) := B1.trans (But.new np)
      have six : ∀ j : Nat, j < 6 → ([.int 0, .int 1, .int (-1), .int (10 ^ 18), .int (10 ^ 60 - 1), .int (1 - 10 ^ 60)] : List V)[j]? = some (.int (([0, 1, -1, 10 ^ 18, 10 ^ 60 - 1, 1 - 10 ^ 60] : List Int).getD j 0)) ∧ (([0, 1, -1, 10 ^ 18, 10 ^ 60 - 1, 1 - 10 ^ 60] : List Int).getD j 0).natAbs ≤ 10 ^ 60 := fun j hj => by
        match j, hj with
        | 0, _ => exact ⟨rfl, by decide⟩
        | 1, _ => exact ⟨rfl, by decide⟩
        | 2, _ => exact ⟨rfl, by decide⟩
        | 3, _ => exact ⟨rfl, by decide⟩
        | 4, _ => exact ⟨rfl, by decide⟩
        | 5, _ => exact ⟨rfl, by decide⟩
      have sj := six j (by omega)
      exact ⟨_, rfl, p, _, _, _, rfl, rfl, .inl (.inl upd_same), atI_nat sj.1, q _ _ sj.2 B2 S2⟩
    · refine ⟨_, rfl, a, ca, 10, rfl, S1, by decide, fun e H2 e0 e1 B2 S2 => ?_⟩
      refine ⟨_, _, rfl, rfl, 1 + e, rfl, by omega, by omega, ?_⟩
      refine for_range (lo := 0) (n := (1 + e).toNat) (fun i σ H' => ∃ (n : Nat) (y : Option V), σ = [some (.ref a), some (.int d), some (.int (n : Int)), y] ∧ n < 10 ^ (6 * i) ∧ But a H H' ∧ Sto H' a ca) ⟨0, none, rfl, by decide, B1.trans B2, S2⟩ ?_ ?_
      · rintro i σ H' hi ⟨n, y, rfl, lt, B3, S3⟩
        have hi' : i < 10 := by
          have : i < (1 + e).toNat := hi
          omega
        have small : 10 ^ (6 * i) ≤ 10 ^ 60 := Nat.pow_le_pow_right (by decide) (by omega)
        refine ⟨_, rfl, _, _, rfl, rfl, wide_mul (a := 200) (b := 20) ?_ (by decide) (by decide) (by decide) (by decide), ?_⟩
        · rw [Int.natAbs_natCast]
          exact Nat.lt_of_lt_of_le lt (Nat.le_trans small (by decide +kernel))
        refine ⟨_, rfl, a, ca, 1000000, rfl, S3, by decide, fun r H4 r0 r1 B4 S4 => ?_⟩
        refine ⟨_, _, rfl, rfl, n * 1000000 + r.toNat, some (.int (0 + (i : Int))), ?_, ?_, B3.trans B4, S4⟩
        · have e1 : (n : Int) * 1000000 + r = ((n * 1000000 + r.toNat : Nat) : Int) := by omega
          rw [← e1]
          rfl
        · rw [show 6 * (i + 1) = 6 * i + 6 by omega, Nat.pow_add]
          have : r.toNat < 1000000 := by omega
          omega
      · rintro σ H' ⟨n, y, rfl, lt, B3, S3⟩
        have m60 : n ≤ 10 ^ 60 := by
          have : 10 ^ (6 * (1 + e).toNat) ≤ 10 ^ 60 := Nat.pow_le_pow_right (by decide) (by omega)
          omega
        refine ⟨_, rfl, rfl, _, rfl, ite2 (fun g2 => ?_) (fun g2 => ?_)⟩
        · refine ⟨_, rfl, _, _, rfl, rfl, q _ H' ?_ B3 S3⟩
          omega
        · exact ⟨_, rfl, q _ H' (by rw [Int.natAbs_natCast]; exact m60) B3 S3⟩

def sp_no_text (_ : PySem.W.Frag) : Sp := fun vs H Q _ => ∃ (a ca : Addr), vs = [.ref a] ∧ Sto H a ca ∧ ∀ (v : V) (H' : Hp), Deep a 2 H' v → But a H H' → Sto H' a ca → Q v H'
theorem ok_no_text (T : Txt K mg base) : FnOk P w K mg base CX0 (3 + 1) T.f_no_text T.fd_no_text ["store"] (sp_no_text K) := by
  refine T.F_no_text.ok sc_no_text (fun vs H Q E h => ?_) (fun cdv A outer s H vs Q E hr h => ?_)
  · obtain ⟨a, ca, rfl, _⟩ := h
    rfl
  · obtain ⟨a, ca, rfl, S, q⟩ := h
    refine ⟨_, (pss_cons (ps_set (i := 1) sc_no_text.nd rfl (.inl rfl) (pe_call (ok_take T) (hr.mono (by first | decide | exact Nat.le_refl _)) (by rfl) T.g_take T.F_take.kp T.b_take .nil pass0 (pa_cons (pv 0) (pa_cons pe_int pa_nil))))
      (pss_cons (ps_if (pt_cmpR op_lt (pv 1) pe_int (nomark _)) (pss_one (ps_ret (pe_ix ix_list (pe_lst (pa_cons pe_non (pa_cons pe_bl (pa_cons pe_bl (pa_cons pe_int (pa_cons pe_int (pa_cons (pe_lst pa_nil) (pa_cons (pe_tup pa_nil) (pa_cons (pe_lst (pa_cons pe_str pa_nil)) (pa_cons (pe_tup (pa_cons pe_str pa_nil)) (pa_cons (pe_lst (pa_cons (pe_lst (pa_cons pe_str pa_nil)) pa_nil)) pa_nil))))))))))) (pv 1) (fun _ _ => rfl)))) pss_nil)
      (pss_one (ps_ret (pe_call (ok_big T) (hr.mono (by first | decide | exact Nat.le_refl _)) (by rfl) T.g_big T.F_big.kp T.b_big .nil pass0 (pa_cons (pv 0) pa_nil)))))), ?_⟩
    refine ⟨_, rfl, a, ca, 12, rfl, S, by decide, fun d H1 d0 d1 B1 S1 => ?_⟩
    have d12 : d < 12 := by omega
    refine ⟨_, rfl, _, _, rfl, rfl, _, rfl, ite2 (fun g => ?_) (fun g => ?_)⟩
    · obtain ⟨j, rfl⟩ := Int.eq_ofNat_of_zero_le d0
      have j10 : j < 10 := by
        have := of_decide_eq_true g
        omega
      refine ⟨by decide, fun p1 n1 => ⟨by decide, fun p2 n2 => ⟨by decide, fun p3 n3 => ⟨by decide, fun p4 n4 => ⟨by decide, fun p5 n5 => ⟨by show 1 ≤ sizeLine; decide, fun p6 n6 => ⟨by show 10 ≤ sizeLine; decide, fun p7 n7 => ?_⟩⟩⟩⟩⟩⟩⟩
      have S2 := S1.new (o := .lst []) n1
      have S3 := S2.new (o := .tup []) n2
      have S4 := S3.new (o := .lst [.str (Str.ofString "a")]) n3
      have S5 := S4.new (o := .tup [.str (Str.ofString "a")]) n4
      have S6 := S5.new (o := .lst [.str (Str.ofString "a")]) n5
      have S7 := S6.new (o := .lst [.ref p5]) n6
      have k7 := same_new (o := .lst [.non, .bl true, .bl false, .int 0, .int 1, .ref p1, .ref p2, .ref p3, .ref p4, .ref p6]) n7
      have k6 := (same_new (o := .lst [.ref p5]) n6).trans k7
      have k5 := (same_new (o := .lst [.str (Str.ofString "a")]) n5).trans k6
      have k4 := (same_new (o := .tup [.str (Str.ofString "a")]) n4).trans k5
      have k3 := (same_new (o := .lst [.str (Str.ofString "a")]) n3).trans k4
      have k2 := (same_new (o := .tup []) n2).trans k3
      have k1 := (same_new (o := .lst []) n1).trans k2
      have e1 := k2 _ _ (upd_same (o := .lst []))
      have e2 := k3 _ _ (upd_same (o := .tup []))
      have e3 := k4 _ _ (upd_same (o := .lst [.str (Str.ofString "a")]))
      have e4 := k5 _ _ (upd_same (o := .tup [.str (Str.ofString "a")]))
      have e5 := k6 _ _ (upd_same (o := .lst [.str (Str.ofString "a")]))
      have e6 := k7 _ _ (upd_same (o := .lst [.ref p5]))
      have sa : ∀ {n : Nat} {Hx : Hp}, ∀ x ∈ [V.str (Str.ofString "a")], Deep a n Hx x := fun x m => by
        rw [List.mem_singleton.mp m]
        exact deep_str (by decide)
      have all : ∀ Hf : Hp, Hf p1 = some (.lst []) → Hf p2 = some (.tup []) → Hf p3 = some (.lst [.str (Str.ofString "a")]) → Hf p4 = some (.tup [.str (Str.ofString "a")]) → Hf p5 = some (.lst [.str (Str.ofString "a")]) → Hf p6 = some (.lst [.ref p5]) →
          ∀ x ∈ [V.non, .bl true, .bl false, .int 0, .int 1, .ref p1, .ref p2, .ref p3, .ref p4, .ref p6], Deep a 2 Hf x := by
        intro Hf e1 e2 e3 e4 e5 e6
        refine List.forall_mem_cons.mpr ⟨deep_non, List.forall_mem_cons.mpr ⟨deep_bl, List.forall_mem_cons.mpr ⟨deep_bl, List.forall_mem_cons.mpr ⟨deep_int (Nat.pow_pos (by decide)), List.forall_mem_cons.mpr ⟨deep_int (Nat.one_lt_two_pow (by decide)), ?_⟩⟩⟩⟩⟩
        refine List.forall_mem_cons.mpr ⟨deep_lst (S1.ne n1).1 e1 (by decide) (fun x m => absurd m List.not_mem_nil), List.forall_mem_cons.mpr ⟨deep_tup (S2.ne n2).1 e2 (by decide) (fun x m => absurd m List.not_mem_nil), ?_⟩⟩
        refine List.forall_mem_cons.mpr ⟨deep_lst (S3.ne n3).1 e3 (by decide) sa, List.forall_mem_cons.mpr ⟨deep_tup (S4.ne n4).1 e4 (by decide) sa, ?_⟩⟩
        refine List.forall_mem_cons.mpr ⟨deep_lst (S6.ne n6).1 e6 (by show 1 ≤ 1000000; decide) ?_, fun x m => absurd m List.not_mem_nil⟩
        intro x m
        rw [List.mem_singleton.mp m]
        exact deep_lst (S5.ne n5).1 e5 (by decide) sa
      have hj : j < [V.non, .bl true, .bl false, .int 0, .int 1, .ref p1, .ref p2, .ref p3, .ref p4, .ref p6].length := j10
      exact ⟨_, rfl, _, _, _, _, rfl, rfl, .inl (.inl upd_same), atI_nat (List.getElem?_eq_getElem hj), q _ _ (all _ e1 e2 e3 e4 e5 e6 _ (List.getElem_mem hj)) (B1.trans (But.same k1)) (S7.new n7)⟩
    · refine ⟨_, rfl, a, ca, rfl, S1, fun n H2 hn B2 S2 => q _ _ (deep_int ?_) (B1.trans B2) S2⟩
      exact Nat.lt_of_le_of_lt hn (Nat.lt_of_lt_of_le (by decide : 10 ^ 60 < 2 ^ 200) (Nat.pow_le_pow_right (by decide) (by decide)))

def sp_not_letters (_ : PySem.W.Frag) : Sp := fun vs H Q _ => ∃ (a ca : Addr), vs = [.ref a] ∧ Sto H a ca ∧ ∀ (v : V) (H' : Hp), Deep a 2 H' v → But a H H' → Sto H' a ca → Q v H'
theorem ok_not_letters (T : Txt K mg base) : FnOk P w K mg base CX0 (4 + 1) T.f_not_letters T.fd_not_letters ["store"] (sp_not_letters K) := by
  refine T.F_not_letters.ok sc_not_letters (fun vs H Q E h => ?_) (fun cdv A outer s H vs Q E hr h => ?_)
  · obtain ⟨a, ca, rfl, _⟩ := h
    rfl
  · obtain ⟨a, ca, rfl, S, q⟩ := h
    refine ⟨_, (pss_cons (ps_set (i := 1) sc_not_letters.nd rfl (.inl rfl) (pe_call (ok_letters T) (hr.mono (by first | decide | exact Nat.le_refl _)) (by rfl) T.g_letters T.F_letters.kp T.b_letters .nil pass0 (pa_cons (pv 0) (pa_cons pe_int pa_nil))))
      (pss_cons (ps_set (i := 2) sc_not_letters.nd rfl (.inl rfl) (pe_call (ok_take T) (hr.mono (by first | decide | exact Nat.le_refl _)) (by rfl) T.g_take T.F_take.kp T.b_take .nil pass0 (pa_cons (pv 0) (pa_cons (pe_callB call_len_str (by rfl) T.z_len PySem.boot_len (pa_cons (pv 1) pa_nil)) pa_nil))))
      (pss_cons (ps_set (i := 3) sc_not_letters.nd rfl (.inl rfl) (pe_call (ok_take T) (hr.mono (by first | decide | exact Nat.le_refl _)) (by rfl) T.g_take T.F_take.kp T.b_take .nil pass0 (pa_cons (pv 0) (pa_cons pe_int pa_nil))))
      (pss_cons (ps_if (pt_cmpR op_eq (pv 3) pe_int (nomark _)) (pss_one (ps_ret pe_str)) pss_nil)
      (pss_cons (ps_if (pt_cmpR op_eq (pv 3) pe_int (nomark _)) (pss_cons (ps_set (i := 2) sc_not_letters.nd rfl (.inl rfl) (pe_call (ok_take T) (hr.mono (by first | decide | exact Nat.le_refl _)) (by rfl) T.g_take T.F_take.kp T.b_take .nil pass0 (pa_cons (pv 0) (pa_cons pe_int pa_nil))))
      (pss_one (ps_ret (pe_slice sl_str pe_str (po_some (pv 2)) (po_some (pe_op op_add (pe_op op_add (pv 2) pe_int) (pe_call (ok_take T) (hr.mono (by first | decide | exact Nat.le_refl _)) (by rfl) T.g_take T.F_take.kp T.b_take .nil pass0 (pa_cons (pv 0) (pa_cons pe_int pa_nil))))))))) pss_nil)
      (pss_cons (ps_if (pt_cmpR op_eq (pv 3) pe_int (nomark _)) (pss_one (ps_ret (pe_op op_add_str (pe_op op_add_str (pe_slice sl_str (pv 1) po_none (po_some (pv 2))) (pe_ix ix_str (pv 1) (pv 2) (fun _ _ => rfl))) (pe_slice sl_str (pv 1) (po_some (pv 2)) po_none)))) pss_nil)
      (pss_cons (ps_if (pt_cmpR op_eq (pv 3) pe_int (nomark _)) (pss_one (ps_ret (pe_ix ix_tup (pe_tup (pa_cons (pe_op op_add_str pe_str (pe_slice sl_str (pv 1) po_none (po_some pe_int))) (pa_cons (pe_op op_add_str (pv 1) (pv 1)) pa_nil))) (pe_call (ok_take T) (hr.mono (by first | decide | exact Nat.le_refl _)) (by rfl) T.g_take T.F_take.kp T.b_take .nil pass0 (pa_cons (pv 0) (pa_cons pe_int pa_nil))) (fun _ _ => rfl)))) pss_nil)
      (pss_cons (ps_if (pt_cmpR op_eq (pv 3) pe_int (nomark _)) (pss_one (ps_ret (pe_op op_add_str (pe_op op_add_str (pe_slice sl_str (pv 1) po_none (po_some (pv 2))) (pe_upper (pe_ix ix_str (pv 1) (pv 2) (fun _ _ => rfl)))) (pe_slice sl_str (pv 1) (po_some (pe_op op_add (pv 2) pe_int)) po_none)))) pss_nil)
      (pss_cons (ps_if (pt_cmpR op_eq (pv 3) pe_int (nomark _)) (pss_one (ps_ret (pe_op op_add_str (pe_op op_add_str (pe_slice sl_str (pv 1) po_none (po_some (pv 2))) (pe_call (ok_pick T) (hr.mono (by first | decide | exact Nat.le_refl _)) (by rfl) T.g_pick T.F_pick.kp T.b_pick .nil pass0 (pa_cons (pv 0) (pa_cons pe_str pa_nil)))) (pe_slice sl_str (pv 1) (po_some (pv 2)) po_none)))) pss_nil)
      (pss_cons (ps_if (pt_cmpR op_eq (pv 3) pe_int (nomark _)) (pss_one (ps_ret (pe_op op_add_str (pv 1) pe_str))) pss_nil)
      (pss_cons (ps_if (pt_cmpR op_eq (pv 3) pe_int (nomark _)) (pss_one (ps_ret (pe_lc (own := [("x", 4)]) (g := gName 4) rfl sc_not_letters.nd (pi_str (pv 1)) (blkOk_by (N := ["store", "good", "at", "draw", "x"]) (sc := defScope s_not_letters) (by decide +kernel)) (fun _ _ _ _ _ => pg_name (i := 4) sc_not_letters.nd rfl (Or.inl rfl)) (fun _ _ _ _ _ => pts_nil) (fun _ _ _ _ _ => (pv 4))))) pss_nil)
      (pss_cons (ps_if (pt_cmpR op_eq (pv 3) pe_int (nomark _)) (pss_one (ps_ret (pe_callTy call_tuple_of (by rfl) T.z_tuple (by decide +kernel) (pa_cons (pe_lc (own := [("x", 4)]) (g := gName 4) rfl sc_not_letters.nd (pi_str (pv 1)) (blkOk_by (N := ["store", "good", "at", "draw", "x"]) (sc := defScope s_not_letters) (by decide +kernel)) (fun _ _ _ _ _ => pg_name (i := 4) sc_not_letters.nd rfl (Or.inl rfl)) (fun _ _ _ _ _ => pts_nil) (fun _ _ _ _ _ => (pv 4))) pa_nil)))) pss_nil)
      (pss_one (ps_ret (pe_call (ok_no_text T) (hr.mono (by first | decide | exact Nat.le_refl _)) (by rfl) T.g_no_text T.F_no_text.kp T.b_no_text .nil pass0 (pa_cons (pv 0) pa_nil)))))))))))))))), ?_⟩
    refine ⟨_, rfl, a, ca, 4, rfl, S, fun x H1 al B1 S1 => ?_⟩
    have z0 : 0 < x.length := al.len1
    have lx : x.length ≤ 4 := al.len4
    have sx : x.length ≤ sizeLine := small_text al.small
    have sd : ∀ {n : Nat} {Hx : Hp}, ∀ y ∈ (cs x).map signV, Deep a n Hx y := fun y m => by
      obtain ⟨c, _, rfl⟩ := List.mem_map.mp m
      exact deep_str (by show 1 ≤ 1000000; decide)
    refine ⟨_, rfl, _, rfl, x, rfl, sx, a, ca, _, rfl, S1, by omega, fun e H2 e0 e1 B2 S2 => ?_⟩
    refine ⟨_, rfl, a, ca, 11, rfl, S2, by decide, fun d H3 d0 d1 B3 S3 => ?_⟩
    have B03 := (B1.trans B2).trans B3
    obtain ⟨j, rfl⟩ := Int.eq_ofNat_of_zero_le e0
    have hj : j < (cs x).length := by
      rw [cs_len]
      omega
    have at_ := atI_nat (List.getElem?_eq_getElem hj)
    have c1 := cut_len x none (some (j : Int))
    have c2 := cut_len x (some (j : Int)) none
    have c3 := cut_len x (some ((j : Int) + 1)) none
    have fits : ∀ (y u : Str), y.length ≤ 3 → u.length ≤ 4 → (cutS x none (some (j : Int))).length + y.length ≤ sizeLine ∧ (cutS x none (some (j : Int)) ++ y).length + u.length ≤ sizeLine ∧ ((cutS x none (some (j : Int)) ++ y) ++ u).length ≤ 1000000 := fun y u ly lu => by
      simp only [length_app]
      exact ⟨small_text (by omega), small_text (by omega), by omega⟩
    have f2 := fun y ly => fits y (cutS x (some (j : Int)) none) ly (by omega)
    have f3 := fun y ly => fits y (cutS x (some ((j : Int) + 1)) none) ly (by omega)
    refine ⟨_, rfl, rfl, _, rfl, ite2 (fun _ => ?_) (fun _ => ?_)⟩
    · exact q _ _ (deep_str (by decide +kernel)) B03 S3
    refine ⟨_, rfl, rfl, _, rfl, ite2 (fun _ => ?_) (fun _ => ?_)⟩
    · refine ⟨_, rfl, a, ca, 20, rfl, S3, by decide, fun f H4 f0 f1 B4 S4 => ?_⟩
      refine ⟨_, rfl, _, rfl, _, rfl, _, _, rfl, rfl, _, rfl, a, ca, 2, rfl, S4, by decide, fun g H5 g0 g1 B5 S5 => ?_⟩
      have abc26 : (Str.ofString "abcdefghijklmnopqrstuvwxyz").length ≤ 1000000 := by decide +kernel
      exact ⟨_, _, rfl, rfl, _, rfl, _, rfl, small_text abc26, q _ _ (deep_str (Nat.le_trans (cut_len _ _ _) abc26)) ((B03.trans B4).trans B5) S5⟩
    refine ⟨_, rfl, rfl, _, rfl, ite2 (fun _ => ?_) (fun _ => ?_)⟩
    · have o1 : (⟨#[(cs x)[j]]⟩ : Str).length ≤ 3 := by show 1 ≤ 3; decide
      refine ⟨_, rfl, _, rfl, _, rfl, x, rfl, sx, _, rfl, _, rfl, x, _, _, rfl, rfl, sx, at_, _, _, rfl, rfl, (f2 _ o1).1, ?_⟩
      exact ⟨_, rfl, _, rfl, _, rfl, x, rfl, sx, _, _, rfl, rfl, (f2 _ o1).2.1, q _ _ (deep_str (f2 _ o1).2.2) B03 S3⟩
    refine ⟨_, rfl, rfl, _, rfl, ite2 (fun _ => ?_) (fun _ => ?_)⟩
    · have c4 := cut_len x none (some 3)
      refine ⟨_, rfl, _, rfl, x, rfl, sx, _, _, rfl, rfl, small_text (show 1 + _ ≤ 1000000 by omega), _, rfl, _, rfl, _, _, rfl, rfl, small_text (by omega), by show 2 ≤ sizeLine; decide, fun p np => ?_⟩
      refine ⟨_, rfl, a, ca, 2, rfl, S3.new np, by decide, fun g H5 g0 g1 B5 S5 => ?_⟩
      have hp := B5 _ _ (S3.ne np).1 (upd_same (H := H3) (a := p) (o := .tup [.str (Str.ofString "z" ++ cutS x none (some 3)), .str (x ++ x)]))
      obtain ⟨k, rfl⟩ := Int.eq_ofNat_of_zero_le g0
      have hk : k < [V.str (Str.ofString "z" ++ cutS x none (some 3)), V.str (x ++ x)].length := by
        show k < 2
        omega
      have all : ∀ {n : Nat} {Hx : Hp}, ∀ y ∈ [V.str (Str.ofString "z" ++ cutS x none (some 3)), V.str (x ++ x)], Deep a n Hx y := by
        intro n Hx
        refine List.forall_mem_cons.mpr ⟨deep_str ?_, List.forall_mem_cons.mpr ⟨deep_str ?_, fun y m => absurd m List.not_mem_nil⟩⟩
        · rw [length_app]
          show 1 + _ ≤ 1000000
          omega
        · rw [length_app]
          omega
      exact ⟨_, _, _, _, rfl, rfl, .inl (.inl hp), atI_nat (List.getElem?_eq_getElem hk), q _ _ (all _ (List.getElem_mem hk)) (B03.trans ((But.new np).trans B5)) S5⟩
    refine ⟨_, rfl, rfl, _, rfl, ite2 (fun _ => ?_) (fun _ => ?_)⟩
    · refine ⟨_, rfl, _, rfl, _, rfl, x, rfl, sx, _, rfl, _, rfl, x, _, _, rfl, rfl, sx, at_, ⟨_, rfl⟩, _, rfl, rfl, by show 1 ≤ 5592405; decide, ?_⟩
      exact ⟨_, _, rfl, rfl, (f3 _ (up3 _)).1, _, rfl, _, rfl, _, _, rfl, rfl, _, rfl, x, rfl, sx, _, _, rfl, rfl, (f3 _ (up3 _)).2.1, q _ _ (deep_str (f3 _ (up3 _)).2.2) B03 S3⟩
    refine ⟨_, rfl, rfl, _, rfl, ite2 (fun _ => ?_) (fun _ => ?_)⟩
    · refine ⟨_, rfl, _, rfl, _, rfl, x, rfl, sx, _, rfl, a, ca, S3, .inl ⟨_, rfl, by decide +kernel, by decide +kernel, fun c H4 hc B4 S4 => ?_⟩⟩
      have o1 : (⟨#[c]⟩ : Str).length ≤ 3 := by show 1 ≤ 3; decide
      exact ⟨_, _, rfl, rfl, (f2 _ o1).1, _, rfl, _, rfl, _, rfl, x, rfl, sx, _, _, rfl, rfl, (f2 _ o1).2.1, q _ _ (deep_str (f2 _ o1).2.2) (B03.trans B4) S4⟩
    refine ⟨_, rfl, rfl, _, rfl, ite2 (fun _ => ?_) (fun _ => ?_)⟩
    · refine ⟨_, rfl, _, _, rfl, rfl, ?_, q _ _ (deep_str ?_) B03 S3⟩
      · exact small_text (show x.length + 1 ≤ 1000000 by omega)
      · rw [length_app]
        show x.length + 1 ≤ 1000000
        omega
    refine ⟨_, rfl, rfl, _, rfl, ite2 (fun _ => ?_) (fun _ => ?_)⟩
    · refine ⟨_, rfl, x, rfl, fun D nD => ?_⟩
      have nDa : D ≠ a := (S3.ne nD).1
      refine lc_it walk_str (fun n H' => H' D = some (.lst (((cs x).take n).map signV)) ∧ Same H3 H') ⟨by rw [upd_same, List.take_zero]; rfl, same_new nD⟩ (fun _ _ _ _ => trivial) ?_ ?_
      · rintro n v H4 H5 hn ⟨h1, h2⟩ ⟨rfl, c, hc, rfl⟩
        have hc' : (cs x)[n]? = some c := by
          show x.cps.toList[n]? = some c
          rw [Array.getElem?_toList]
          exact hc
        refine ⟨rfl, _, rfl, _, h1, ?_, ?_, ?_⟩
        · rw [List.length_map, List.length_take, cs_len]
          exact Nat.lt_of_le_of_lt (Nat.min_le_right _ _) (Nat.lt_of_le_of_lt (m := 1000000) (by omega) (by decide))
        · rw [upd_same, List.take_add_one, hc', List.map_append]
          rfl
        · exact (Same.refl H3).grown nD h2 h1
      · rintro H' ⟨h1, h2⟩
        have e : List.take x.cps.size (cs x) = cs x := List.take_of_length_le (Nat.le_of_eq (cs_len x))
        rw [e] at h1
        exact q _ _ (deep_lst nDa h1 (by rw [List.length_map, cs_len]; omega) sd) (B03.trans (But.same h2)) (S3.same h2)
    refine ⟨_, rfl, rfl, _, rfl, ite2 (fun _ => ?_) (fun _ => ?_)⟩
    · refine ⟨_, rfl, x, rfl, fun D nD => ?_⟩
      refine lc_it walk_str (fun n H' => H' D = some (.lst (((cs x).take n).map signV)) ∧ Same H3 H') ⟨by rw [upd_same, List.take_zero]; rfl, same_new nD⟩ (fun _ _ _ _ => trivial) ?_ ?_
      · rintro n v H4 H5 hn ⟨h1, h2⟩ ⟨rfl, c, hc, rfl⟩
        have hc' : (cs x)[n]? = some c := by
          show x.cps.toList[n]? = some c
          rw [Array.getElem?_toList]
          exact hc
        refine ⟨rfl, _, rfl, _, h1, ?_, ?_, ?_⟩
        · rw [List.length_map, List.length_take, cs_len]
          exact Nat.lt_of_le_of_lt (Nat.min_le_right _ _) (Nat.lt_of_le_of_lt (m := 1000000) (by omega) (by decide))
        · rw [upd_same, List.take_add_one, hc', List.map_append]
          rfl
        · exact (Same.refl H3).grown nD h2 h1
      · rintro H' ⟨h1, h2⟩
        have e : List.take x.cps.size (cs x) = cs x := List.take_of_length_le (Nat.le_of_eq (cs_len x))
        rw [e] at h1
        refine ⟨D, _, rfl, .inl ⟨.inl (.inl h1), fun p np => ?_⟩⟩
        exact q _ _ (deep_tup ((S3.same h2).ne np).1 upd_same (by rw [List.length_map, cs_len]; omega) sd) ((B03.trans (But.same h2)).trans (But.new np)) ((S3.same h2).new np)
    exact ⟨_, rfl, a, ca, rfl, S3, fun v H4 dv B4 S4 => q _ _ dv (B03.trans B4) S4⟩

def sp_not_name (_ : PySem.W.Frag) : Sp := fun vs H Q _ => ∃ (a ca : Addr), vs = [.ref a] ∧ Sto H a ca ∧ ∀ (v : V) (H' : Hp), Deep a 2 H' v → But a H H' → Sto H' a ca → Q v H'
theorem ok_not_name (T : Txt K mg base) : FnOk P w K mg base CX0 (4 + 1) T.f_not_name T.fd_not_name ["store"] (sp_not_name K) := by
  refine T.F_not_name.ok sc_not_name (fun vs H Q E h => ?_) (fun cdv A outer s H vs Q E hr h => ?_)
  · obtain ⟨a, ca, rfl, _⟩ := h
    rfl
  · obtain ⟨a, ca, rfl, S, q⟩ := h
    refine ⟨_, (pss_cons (ps_set (i := 1) sc_not_name.nd rfl (.inl rfl) (pe_call (ok_name T) (hr.mono (by first | decide | exact Nat.le_refl _)) (by rfl) T.g_name T.F_name.kp T.b_name .nil pass0 (pa_cons (pv 0) pa_nil)))
      (pss_cons (ps_set (i := 2) sc_not_name.nd rfl (.inl rfl) (pe_call (ok_take T) (hr.mono (by first | decide | exact Nat.le_refl _)) (by rfl) T.g_take T.F_take.kp T.b_take .nil pass0 (pa_cons (pv 0) (pa_cons (pe_op op_add (pe_callB call_len_str (by rfl) T.z_len PySem.boot_len (pa_cons (pv 1) pa_nil)) pe_int) pa_nil))))
      (pss_cons (ps_set (i := 3) sc_not_name.nd rfl (.inl rfl) (pe_call (ok_take T) (hr.mono (by first | decide | exact Nat.le_refl _)) (by rfl) T.g_take T.F_take.kp T.b_take .nil pass0 (pa_cons (pv 0) (pa_cons pe_int pa_nil))))
      (pss_cons (ps_if (pt_cmpR op_eq (pv 3) pe_int (nomark _)) (pss_one (ps_ret pe_str)) pss_nil)
      (pss_cons (ps_if (pt_cmpR op_eq (pv 3) pe_int (nomark _)) (pss_one (ps_ret (pe_slice sl_str (pe_op op_add_str (pv 1) pe_str) po_none (po_some pe_int)))) pss_nil)
      (pss_cons (ps_if (pt_cmpR op_eq (pv 3) pe_int (nomark _)) (pss_one (ps_ret (pe_op op_add_str (pv 1) pe_str))) pss_nil)
      (pss_cons (ps_if (pt_cmpR op_eq (pv 3) pe_int (nomark _)) (pss_one (ps_ret (pe_op op_add_str (pe_call (ok_pick T) (hr.mono (by first | decide | exact Nat.le_refl _)) (by rfl) T.g_pick T.F_pick.kp T.b_pick .nil pass0 (pa_cons (pv 0) (pa_cons pe_str pa_nil))) (pe_slice sl_str (pv 1) (po_some pe_int) po_none)))) pss_nil)
      (pss_cons (ps_if (pt_cmpR op_eq (pv 3) pe_int (nomark _)) (pss_one (ps_ret (pe_op op_add_str (pe_op op_add_str (pe_slice sl_str (pv 1) po_none (po_some (pv 2))) (pe_call (ok_pick T) (hr.mono (by first | decide | exact Nat.le_refl _)) (by rfl) T.g_pick T.F_pick.kp T.b_pick .nil pass0 (pa_cons (pv 0) (pa_cons pe_str pa_nil)))) (pe_slice sl_str (pv 1) (po_some (pv 2)) po_none)))) pss_nil)
      (pss_cons (ps_if (pt_cmpR op_eq (pv 3) pe_int (nomark _)) (pss_one (ps_ret (pe_op op_add_str (pe_slice sl_str (pv 1) po_none (po_some pe_int)) pe_str))) pss_nil)
      (pss_cons (ps_if (pt_cmpR op_eq (pv 3) pe_int (nomark _)) (pss_one (ps_ret (pe_lst (pa_cons (pv 1) pa_nil)))) pss_nil)
      (pss_one (ps_ret (pe_call (ok_no_text T) (hr.mono (by first | decide | exact Nat.le_refl _)) (by rfl) T.g_no_text T.F_no_text.kp T.b_no_text .nil pass0 (pa_cons (pv 0) pa_nil)))))))))))))), ?_⟩
    refine ⟨_, rfl, a, ca, rfl, S, fun x H1 lx B1 S1 => ?_⟩
    have sx : x.length ≤ sizeLine := small_text (by omega)
    refine ⟨_, rfl, _, rfl, x, rfl, sx, _, _, rfl, rfl, a, ca, _, rfl, S1, by omega, fun e H2 e0 e1 B2 S2 => ?_⟩
    refine ⟨_, rfl, a, ca, 9, rfl, S2, by decide, fun d H3 d0 d1 B3 S3 => ?_⟩
    have B03 := (B1.trans B2).trans B3
    have c1 := cut_len x none (some e)
    have c2 := cut_len x (some e) none
    have c3 := cut_len x (some 1) none
    have c4 := cut_len x none (some 11)
    refine ⟨_, rfl, rfl, _, rfl, ite2 (fun _ => ?_) (fun _ => ?_)⟩
    · exact q _ _ (deep_str (by decide +kernel)) B03 S3
    refine ⟨_, rfl, rfl, _, rfl, ite2 (fun _ => ?_) (fun _ => ?_)⟩
    · have e13 : (Str.ofString "a1b2c3d4e5f6z").length = 13 := by decide +kernel
      have l2 : (x ++ Str.ofString "a1b2c3d4e5f6z").length ≤ 1000000 := by
        rw [length_app, e13]
        omega
      refine ⟨_, rfl, _, _, rfl, rfl, small_text (by rw [e13]; omega), _, rfl, _, rfl, small_text l2, q _ _ (deep_str (Nat.le_trans (cut_len _ _ _) l2)) B03 S3⟩
    refine ⟨_, rfl, rfl, _, rfl, ite2 (fun _ => ?_) (fun _ => ?_)⟩
    · have e13 : (Str.ofString "abcdefghijkl0").length = 13 := by decide +kernel
      refine ⟨_, rfl, _, _, rfl, rfl, small_text (by rw [e13]; omega), q _ _ (deep_str ?_) B03 S3⟩
      rw [length_app, e13]
      omega
    refine ⟨_, rfl, rfl, _, rfl, ite2 (fun _ => ?_) (fun _ => ?_)⟩
    · refine ⟨_, rfl, a, ca, S3, .inl ⟨_, rfl, by decide +kernel, by decide +kernel, fun c H4 hc B4 S4 => ?_⟩⟩
      refine ⟨_, rfl, _, rfl, x, rfl, sx, _, _, rfl, rfl, small_text (show 1 + _ ≤ 1000000 by omega), q _ _ (deep_str ?_) (B03.trans B4) S4⟩
      rw [length_app]
      show 1 + _ ≤ 1000000
      omega
    refine ⟨_, rfl, rfl, _, rfl, ite2 (fun _ => ?_) (fun _ => ?_)⟩
    · refine ⟨_, rfl, _, rfl, _, rfl, x, rfl, sx, _, rfl, a, ca, S3, .inl ⟨_, rfl, by decide +kernel, by decide +kernel, fun c H4 hc B4 S4 => ?_⟩⟩
      have o1 : (⟨#[c]⟩ : Str).length = 1 := rfl
      refine ⟨_, _, rfl, rfl, small_text (by omega), _, rfl, _, rfl, _, rfl, x, rfl, sx, _, _, rfl, rfl, small_text (by rw [length_app]; omega), q _ _ (deep_str ?_) (B03.trans B4) S4⟩
      rw [length_app, length_app]
      omega
    refine ⟨_, rfl, rfl, _, rfl, ite2 (fun _ => ?_) (fun _ => ?_)⟩
    · refine ⟨_, rfl, _, rfl, x, rfl, sx, _, _, rfl, rfl, small_text (show _ + 1 ≤ 1000000 by omega), q _ _ (deep_str ?_) B03 S3⟩
      rw [length_app]
      show _ + 1 ≤ 1000000
      omega
    refine ⟨_, rfl, rfl, _, rfl, ite2 (fun _ => ?_) (fun _ => ?_)⟩
    · refine ⟨_, rfl, by show 1 ≤ sizeLine; decide, fun p np => q _ _ (deep_lst (S3.ne np).1 upd_same (by show 1 ≤ 1000000; decide) fun y m => ?_) (B03.trans (But.new np)) (S3.new np)⟩
      rw [List.mem_singleton.mp m]
      exact deep_str (by omega)
    exact ⟨_, rfl, a, ca, rfl, S3, fun v H4 dv B4 S4 => q _ _ dv (B03.trans B4) S4⟩

def sp_not_number (_ : PySem.W.Frag) : Sp := fun vs H Q _ => ∃ (a ca : Addr), vs = [.ref a, .int 0, .int 6] ∧ Sto H a ca ∧ ∀ (v : V) (H' : Hp), Deep a 1 H' v → But a H H' → Sto H' a ca → Q v H'
theorem ok_not_number (T : Txt K mg base) : FnOk P w K mg base CX0 (2 + 1) T.f_not_number T.fd_not_number ["store", "low", "high"] (sp_not_number K) := by
  refine T.F_not_number.ok sc_not_number (fun vs H Q E h => ?_) (fun cdv A outer s H vs Q E hr h => ?_)
  · obtain ⟨a, ca, rfl, _⟩ := h
    rfl
  · obtain ⟨a, ca, rfl, S, q⟩ := h
    refine ⟨_, (pss_cons (ps_set (i := 3) sc_not_number.nd rfl (.inl rfl) (pe_call (ok_take T) (hr.mono (by first | decide | exact Nat.le_refl _)) (by rfl) T.g_take T.F_take.kp T.b_take .nil pass0 (pa_cons (pv 0) (pa_cons pe_int pa_nil))))
      (pss_cons (ps_if (pt_cmpR op_lt (pv 3) pe_int (nomark _)) (pss_one (ps_ret (pe_ix ix_list (pe_lst (pa_cons (pe_op op_sub (pv 1) pe_int) (pa_cons (pe_op op_add (pv 2) pe_int) (pa_cons pe_bl (pa_cons pe_bl (pa_cons pe_non (pa_cons (pe_callTy call_str_int (by rfl) T.z_str (by decide +kernel) (pa_cons (pv 1) pa_nil)) (pa_cons (pe_lst (pa_cons (pv 1) pa_nil)) (pa_cons (pe_tup (pa_cons (pv 2) pa_nil)) pa_nil))))))))) (pv 3) (fun _ _ => rfl)))) pss_nil)
      (pss_cons (ps_if (pt_cmpR op_eq (pv 3) pe_int (nomark _)) (pss_one (ps_ret (pe_op op_sub (pe_op op_sub (pv 1) pe_int) (pe_call (ok_take T) (hr.mono (by first | decide | exact Nat.le_refl _)) (by rfl) T.g_take T.F_take.kp T.b_take .nil pass0 (pa_cons (pv 0) (pa_cons pe_int pa_nil)))))) pss_nil)
      (pss_cons (ps_if (pt_cmpR op_eq (pv 3) pe_int (nomark _)) (pss_one (ps_ret (pe_op op_add (pe_op op_add (pv 2) pe_int) (pe_call (ok_take T) (hr.mono (by first | decide | exact Nat.le_refl _)) (by rfl) T.g_take T.F_take.kp T.b_take .nil pass0 (pa_cons (pv 0) (pa_cons pe_int pa_nil)))))) pss_nil)
      (pss_cons (ps_if (pt_cmpR op_eq (pv 3) pe_int (nomark _)) (pss_one (ps_ret (pe_op op_sub (pe_op op_sub (pe_op op_pow pe_int pe_int) pe_int) (pe_call (ok_take T) (hr.mono (by first | decide | exact Nat.le_refl _)) (by rfl) T.g_take T.F_take.kp T.b_take .nil pass0 (pa_cons (pv 0) (pa_cons pe_int pa_nil)))))) pss_nil)
      (pss_one (ps_ret (pe_op op_add (pe_op op_sub pe_int (pe_op op_pow pe_int pe_int)) (pe_call (ok_take T) (hr.mono (by first | decide | exact Nat.le_refl _)) (by rfl) T.g_take T.F_take.kp T.b_take .nil pass0 (pa_cons (pv 0) (pa_cons pe_int pa_nil))))))))))), ?_⟩
    refine ⟨_, rfl, a, ca, 12, rfl, S, by decide, fun d H1 d0 d1 B1 S1 => ?_⟩
    have d12 : d < 12 := by omega
    have tens : (10 : Int) ^ (60 : Int).toNat = ((10 ^ 60 : Nat) : Int) := by decide
    have bnd : ∀ i : Int, i.natAbs < 2 ^ 200 → i.natAbs < 2 ^ 13000 := fun i h => Nat.lt_of_lt_of_le h (Nat.pow_le_pow_right (by decide) (by decide))
    refine ⟨_, rfl, _, _, rfl, rfl, _, rfl, ite2 (fun g => ?_) (fun g => ?_)⟩
    · obtain ⟨j, rfl⟩ := Int.eq_ofNat_of_zero_le d0
      have j8 : j < 8 := by
        have := of_decide_eq_true g
        omega
      refine ⟨_, rfl, _, _, rfl, rfl, ?_⟩
      refine ⟨_, rfl, _, _, rfl, rfl, ?_⟩
      refine ⟨_, rfl, 0, rfl, by decide, ?_⟩
      refine ⟨_, rfl, by show 1 ≤ sizeLine; decide, fun p1 n1 => ⟨_, rfl, by show 1 ≤ sizeLine; decide, fun p2 n2 => ⟨by show 8 ≤ sizeLine; decide, fun p3 n3 => ?_⟩⟩⟩
      have S2 := S1.new (o := .lst [.int 0]) n1
      have S3 := S2.new (o := .tup [.int 6]) n2
      have k3 := same_new (o := .lst [.int (0 - 1), .int (6 + 1), .bl true, .bl false, .non, .str (Str.ofString (toString (0 : Int))), .ref p1, .ref p2]) n3
      have k2 := (same_new (o := .tup [.int 6]) n2).trans k3
      have k1 := (same_new (o := .lst [.int 0]) n1).trans k2
      have e1 := k2 _ _ (upd_same (o := .lst [.int 0]))
      have e2 := k3 _ _ (upd_same (o := .tup [.int 6]))
      have si : ∀ {n : Nat} {Hx : Hp} {i : Int}, i.natAbs < 2 ^ 200 → ∀ x ∈ [V.int i], Deep a n Hx x := fun h x m => by
        rw [List.mem_singleton.mp m]
        exact deep_int (bnd _ h)
      have all : ∀ Hf : Hp, Hf p1 = some (.lst [.int 0]) → Hf p2 = some (.tup [.int 6]) →
          ∀ x ∈ [V.int (0 - 1), .int (6 + 1), .bl true, .bl false, .non, .str (Str.ofString (toString (0 : Int))), .ref p1, .ref p2], Deep a 1 Hf x := by
        intro Hf e1 e2
        refine List.forall_mem_cons.mpr ⟨deep_int (bnd _ (by decide)), List.forall_mem_cons.mpr ⟨deep_int (bnd _ (by decide)), List.forall_mem_cons.mpr ⟨deep_bl, List.forall_mem_cons.mpr ⟨deep_bl, List.forall_mem_cons.mpr ⟨deep_non, ?_⟩⟩⟩⟩⟩
        refine List.forall_mem_cons.mpr ⟨deep_str (by decide +kernel), List.forall_mem_cons.mpr ⟨deep_lst (S1.ne n1).1 e1 (by decide) (si (by decide)), List.forall_mem_cons.mpr ⟨deep_tup (S2.ne n2).1 e2 (by decide) (si (by decide)), fun x m => absurd m List.not_mem_nil⟩⟩⟩
      have hj : j < [V.int (0 - 1), .int (6 + 1), .bl true, .bl false, .non, .str (Str.ofString (toString (0 : Int))), .ref p1, .ref p2].length := j8
      exact ⟨_, rfl, _, _, _, _, rfl, rfl, .inl (.inl upd_same), atI_nat (List.getElem?_eq_getElem hj), q _ _ (all _ e1 e2 _ (List.getElem_mem hj)) (B1.trans (But.same k1)) (S3.new n3)⟩
    · refine ⟨_, rfl, rfl, _, rfl, ite2 (fun g2 => ?_) (fun g2 => ?_)⟩
      · refine ⟨_, rfl, _, _, rfl, rfl, _, rfl, a, ca, 1000, rfl, S1, by decide, fun e H2 e0 e1 B2 S2 => ?_⟩
        exact ⟨_, _, rfl, rfl, q _ _ (deep_int (bnd _ (by omega))) (B1.trans B2) S2⟩
      refine ⟨_, rfl, rfl, _, rfl, ite2 (fun g3 => ?_) (fun g3 => ?_)⟩
      · refine ⟨_, rfl, _, _, rfl, rfl, _, rfl, a, ca, 1000, rfl, S1, by decide, fun e H2 e0 e1 B2 S2 => ?_⟩
        exact ⟨_, _, rfl, rfl, q _ _ (deep_int (bnd _ (by omega))) (B1.trans B2) S2⟩
      refine ⟨_, rfl, rfl, _, rfl, ite2 (fun g4 => ?_) (fun g4 => ?_)⟩
      · refine ⟨_, _, rfl, rfl, ⟨by decide, by decide, by decide⟩, _, _, rfl, rfl, _, rfl, a, ca, 1000, rfl, S1, by decide, fun e H2 e0 e1 B2 S2 => ?_⟩
        refine ⟨_, _, rfl, rfl, q _ _ (deep_int (bnd _ ?_)) (B1.trans B2) S2⟩
        have h60 : (10 : Int) ^ (60 : Int).toNat - 1 < ((2 ^ 200 : Nat) : Int) := by decide
        have h61 : (1000 : Int) < (10 : Int) ^ (60 : Int).toNat - 1 := by decide
        omega
      · refine ⟨_, _, rfl, rfl, ⟨by decide, by decide, by decide⟩, _, _, rfl, rfl, _, rfl, a, ca, 1000, rfl, S1, by decide, fun e H2 e0 e1 B2 S2 => ?_⟩
        refine ⟨_, _, rfl, rfl, q _ _ (deep_int (bnd _ ?_)) (B1.trans B2) S2⟩
        have h60 : -((2 ^ 200 : Nat) : Int) < 1 - (10 : Int) ^ (60 : Int).toNat := by decide
        have h61 : 1 - (10 : Int) ^ (60 : Int).toNat < -1000 := by decide
        omega

/-- an error whose class and value are told -/
def GaveE [Tabl] {K : PySem.W.Frag} {mg : Str → Option Value} {base : Heap} (T : Txt K mg base) (H : Hp) (D : Addr) (Q : VK) : XK := fun cls d H' => Same (upd H D (.lst [])) H' ∧ ∃ (dd : Addr) (v : V) (nm : Str), d = some dd ∧ H' dd = some (.xd [("value", v)]) ∧
  ((cls = .ref T.C_BadLetters ∧ nm = Str.ofString "BadLetters") ∨ (cls = .ref T.C_BadWord ∧ nm = Str.ofString "BadWord") ∨ (cls = .ref T.C_BadNumber ∧ nm = Str.ofString "BadNumber") ∨ (cls = .ref T.C_BadName ∧ nm = Str.ofString "BadName")) ∧
  ∀ (t : Addr) (H2 : Hp), Same H H2 → H2 t = some (.tup [.str nm, v]) → Q (.ref t) H2
theorem raised_gave [Tabl] {K : PySem.W.Frag} {mg : Str → Option Value} {base : Heap} (T : Txt K mg base) {H : Hp} {D C : Addr} {Q : VK} {v : V} {nm : Str}
    (hc : (Value.ref C = .ref T.C_BadLetters ∧ nm = Str.ofString "BadLetters") ∨ (Value.ref C = .ref T.C_BadWord ∧ nm = Str.ofString "BadWord") ∨ (Value.ref C = .ref T.C_BadNumber ∧ nm = Str.ofString "BadNumber") ∨ (Value.ref C = .ref T.C_BadName ∧ nm = Str.ofString "BadName"))
    (k : ∀ (t : Addr) (H2 : Hp), Same H H2 → H2 t = some (.tup [.str nm, v]) → Q (.ref t) H2) : Raised (upd H D (.lst [])) C v (GaveE T H D Q) := by
  intro d H1 H' s n e
  subst e
  exact ⟨s.trans (same_new n), d, v, nm, rfl, upd_same, hc, k⟩
/-- what is told of a call: that it gave a value, or its error with that error's value -/
def tGave [Tabl] {K : PySem.W.Frag} {mg : Str → Option Value} {base : Heap} (T : Txt K mg base) : (XK → Hp → VK → Prop) → Hp → VK → Prop := fun tl H Q => ∀ D : Addr, H D = none → tl (GaveE T H D Q) (upd H D (.lst [])) (fun u H' => 2 ≤ sizeLine ∧ ∀ t : Addr, H' t = none → Q (.ref t) (upd H' t (.tup [.str (Str.ofString "gave"), u])))
/-- a call in a lambda, told: the pair zs in each of its ways -/
theorem gave_run [Tabl] {K : PySem.W.Frag} {mg : Str → Option Value} {base : Heap} (T : Txt K mg base) {t : XK → TE} {σ : L2.St} {H : Hp} (zs : List V) (good : Good H)
    (run : ∀ (H2 : Hp) (E' : XK) (Q' : VK), Same H H2 → (∀ (u : V) (H' : Hp), Same H2 H' → zs = [.str (Str.ofString "gave"), u] → Q' u H') →
      (∀ (C : Addr) (nm : Str) (v : V), ((Value.ref C = .ref T.C_BadLetters ∧ nm = Str.ofString "BadLetters") ∨ (Value.ref C = .ref T.C_BadWord ∧ nm = Str.ofString "BadWord") ∨ (Value.ref C = .ref T.C_BadNumber ∧ nm = Str.ofString "BadNumber") ∨ (Value.ref C = .ref T.C_BadName ∧ nm = Str.ofString "BadName")) →
        zs = [.str nm, v] → Raised H2 C v E') → t E' σ H2 Q') :
    ∀ Qx : VK, (∀ x H3, (∃ tt : Addr, x = .ref tt ∧ Same H H3 ∧ H3 tt = some (.tup zs)) → Qx x H3) → tLamS (tGave T) t σ H Qx := by
  refine fun Qx k => ⟨good, fun H1 s1 D nD => ?_⟩
  refine run (upd H1 D (.lst [])) _ _ (s1.trans (same_new nD)) (fun u H' s' e => ⟨by show 2 ≤ sizeLine; decide, fun tt nt => ?_⟩) (fun C nm v hc e => ?_)
  · subst e
    exact k _ _ ⟨tt, rfl, ((s1.trans (same_new nD)).trans s').trans (same_new nt), upd_same⟩
  · subst e
    exact raised_gave T hc fun tt H2 s2 e2 => k _ _ ⟨tt, rfl, s1.trans s2, e2⟩
theorem gave_run2 [Tabl] {K : PySem.W.Frag} {mg : Str → Option Value} {base : Heap} (T : Txt K mg base) {t : XK → TE} {σ : L2.St} {H : Hp} (d : V) (good : Good H)
    (run : ∀ (H2 : Hp) (E' : XK) (Q' : VK), Same H H2 → (∀ (u : V) (H' : Hp), Same H2 H' → PairZ d [.str (Str.ofString "gave"), u] H' → Q' u H') →
      (∀ (C : Addr) (nm : Str) (v : V), ((Value.ref C = .ref T.C_BadLetters ∧ nm = Str.ofString "BadLetters") ∨ (Value.ref C = .ref T.C_BadWord ∧ nm = Str.ofString "BadWord") ∨ (Value.ref C = .ref T.C_BadNumber ∧ nm = Str.ofString "BadNumber") ∨ (Value.ref C = .ref T.C_BadName ∧ nm = Str.ofString "BadName")) →
        PairZ d [.str nm, v] H → Raised H2 C v E') → t E' σ H2 Q') :
    ∀ Qx : VK, (∀ x H3, (∃ (tt : Addr) (zs : List V), x = .ref tt ∧ Same H H3 ∧ H3 tt = some (.tup zs) ∧ PairZ d zs H3) → Qx x H3) → tLamS (tGave T) t σ H Qx := by
  refine fun Qx k => ⟨good, fun H1 s1 D nD => ?_⟩
  refine run (upd H1 D (.lst [])) _ _ (s1.trans (same_new nD)) (fun u H' s' pz => ⟨by show 2 ≤ sizeLine; decide, fun tt nt => ?_⟩) (fun C nm v hc pz => ?_)
  · exact k _ _ ⟨tt, _, rfl, ((s1.trans (same_new nD)).trans s').trans (same_new nt), upd_same, pz.same (same_new nt)⟩
  · exact raised_gave T hc fun tt H2 s2 e2 => k _ _ ⟨tt, _, rfl, s1.trans s2, e2, pz.same (s1.trans s2)⟩
/-- a lambda's reading, told by _law_gave: the pair zs -/
def TellsZ [Tabl] {K : PySem.W.Frag} {mg : Str → Option Value} {base : Heap} (T : Txt K mg base) (zs : List V) (tl : XK → Hp → VK → Prop) (H : Hp) : Prop :=
  ∀ (H1 : Hp) (Qx : VK), Same H H1 → (∀ (tt : Addr) (H3 : Hp), Same H1 H3 → H3 tt = some (.tup zs) → Qx (.ref tt) H3) → tGave T tl H1 Qx
theorem tellsZ [Tabl] {K : PySem.W.Frag} {mg : Str → Option Value} {base : Heap} (T : Txt K mg base) {tl : XK → Hp → VK → Prop} {H : Hp} (zs : List V)
    (run : ∀ (H2 : Hp) (E' : XK) (Q' : VK), Same H H2 → (∀ (u : V) (H' : Hp), Same H2 H' → zs = [.str (Str.ofString "gave"), u] → Q' u H') →
      (∀ (C : Addr) (nm : Str) (v : V), ((Value.ref C = .ref T.C_BadLetters ∧ nm = Str.ofString "BadLetters") ∨ (Value.ref C = .ref T.C_BadWord ∧ nm = Str.ofString "BadWord") ∨ (Value.ref C = .ref T.C_BadNumber ∧ nm = Str.ofString "BadNumber") ∨ (Value.ref C = .ref T.C_BadName ∧ nm = Str.ofString "BadName")) →
        zs = [.str nm, v] → Raised H2 C v E') → tl E' H2 Q') : TellsZ T zs tl H := by
  intro H1 Qx s1 k D nD
  refine run (upd H1 D (.lst [])) _ _ (s1.trans (same_new nD)) (fun u H' s' e => ⟨by show 2 ≤ sizeLine; decide, fun tt nt => ?_⟩) (fun C nm v hc e => ?_)
  · subst e
    exact k tt _ (((same_new nD).trans s').trans (same_new nt)) upd_same
  · subst e
    exact raised_gave T hc fun tt H2 s2 e2 => k tt H2 s2 e2
theorem gives_gave (T : Txt K mg base) {q : Str} (N : List Str) (qual : Str) (sc : Scope) (fX : Addr) (cdX : Value) (A : Around) (outer : List Env) (s0 : Shared) (H0 : Hp) (E : XK) (cdg : Value) :
    ActGives (cxOf CX0 P w K mg base N qual sc fX cdX A outer s0 H0 E).nox ["action", "told", "e"] "_law_gave" (defScope s_gave) T.f_gave cdg (defBody s_gave) "action" q (tGave T) := by
  intro f c s H Q tl act code h
  refine ⟨_, (pss_cons (ps_set (i := 1) sc_gave.nd rfl (.inl rfl) (pe_lst pa_nil))
      (pss_cons (ps_try_as (i := 2) (Wout := fun _ _ _ _ => False) rfl rfl sc_gave.nd rfl rfl ⟨rfl, by decide, Or.inl T.E_LagError.g⟩ LamX.takes0 (fun W pn xe tk _ => (pss_one (ps_ret (pe_tup (pa_cons pe_str (pa_cons (act W pn xe _ _ tk) pa_nil)))))) (fun a oe cls d pn hz hf => suite_any hz hf))
      (pss_one (ps_ret (pe_ix ix_list (pv 1) pe_int (fun _ _ => rfl)))))), ?_⟩
  refine ⟨by decide, fun D nD => ?_⟩
  refine ⟨_, ?_, rfl, by rw [upd_ne (ne_of_none code nD)]; exact code, h D nD⟩
  rintro cls d H' ⟨sm, dd, v, nm, rfl, hd, hc, q⟩
  have hD : H' D = some (.lst []) := sm _ _ upd_same
  have ne : dd ≠ D := fun e => by
    rw [e, hD] at hd
    cases hd
  rcases hc with ⟨rfl, rfl⟩ | ⟨rfl, rfl⟩ | ⟨rfl, rfl⟩ | ⟨rfl, rfl⟩
  · refine ⟨true, T.x_BadLetters_LagError, fun _ a na => ?_, fun z => by cases z⟩
    intro oe pn hz hf
    refine ⟨_, (pss_cons (ps_if (pt_val (pe_callB (call_isD hz hf) (by rfl) T.z_isinstance (by decide +kernel) (pa_cons (pv 2) (pa_cons (pe_glob (v := .ref T.C_BadLetters) (by rfl) T.E_BadLetters.g rfl) pa_nil)))) (pss_one (ps_expr (pe_bm PySem.F.plainAttrs_list PySem.F.slot_list_append PySem.F.type_list_append mt_append (pv 1) (pa_cons (pe_tup (pa_cons pe_str (pa_cons (by exact pe_xf T.E_BadLetters.f T.no_BadLetters_value hz hf (pv 2)) pa_nil))) pa_nil)))) pss_nil)
      (pss_cons (ps_if (pt_val (pe_callB (call_isD hz hf) (by rfl) T.z_isinstance (by decide +kernel) (pa_cons (pv 2) (pa_cons (pe_glob (v := .ref T.C_BadWord) (by rfl) T.E_BadWord.g rfl) pa_nil)))) (pss_one (ps_expr (pe_bm PySem.F.plainAttrs_list PySem.F.slot_list_append PySem.F.type_list_append mt_append (pv 1) (pa_cons (pe_tup (pa_cons pe_str (pa_cons (by exact pe_xf T.E_BadWord.f T.no_BadWord_value hz hf (pv 2)) pa_nil))) pa_nil)))) pss_nil)
      (pss_cons (ps_if (pt_val (pe_callB (call_isD hz hf) (by rfl) T.z_isinstance (by decide +kernel) (pa_cons (pv 2) (pa_cons (pe_glob (v := .ref T.C_BadNumber) (by rfl) T.E_BadNumber.g rfl) pa_nil)))) (pss_one (ps_expr (pe_bm PySem.F.plainAttrs_list PySem.F.slot_list_append PySem.F.type_list_append mt_append (pv 1) (pa_cons (pe_tup (pa_cons pe_str (pa_cons (by exact pe_xf T.E_BadNumber.f T.no_BadNumber_value hz hf (pv 2)) pa_nil))) pa_nil)))) pss_nil)
      (pss_cons (ps_if (pt_val (pe_callB (call_isD hz hf) (by rfl) T.z_isinstance (by decide +kernel) (pa_cons (pv 2) (pa_cons (pe_glob (v := .ref T.C_BadName) (by rfl) T.E_BadName.g rfl) pa_nil)))) (pss_one (ps_expr (pe_bm PySem.F.plainAttrs_list PySem.F.slot_list_append PySem.F.type_list_append mt_append (pv 1) (pa_cons (pe_tup (pa_cons pe_str (pa_cons (by exact pe_xf T.E_BadName.f T.no_BadName_value hz hf (pv 2)) pa_nil))) pa_nil)))) pss_nil)
      (pss_cons (ps_if (PW.pt (pw_or (pt_val (pe_callB (call_isD hz hf) (by rfl) T.z_isinstance (by decide +kernel) (pa_cons (pv 2) (pa_cons (pe_glob (v := .ref T.C_BadEntry) (by rfl) T.E_BadEntry.g rfl) pa_nil)))) (pw_or (pt_val (pe_callB (call_isD hz hf) (by rfl) T.z_isinstance (by decide +kernel) (pa_cons (pv 2) (pa_cons (pe_glob (v := .ref T.C_BadLine) (by rfl) T.E_BadLine.g rfl) pa_nil)))) (pw_or (pt_val (pe_callB (call_isD hz hf) (by rfl) T.z_isinstance (by decide +kernel) (pa_cons (pv 2) (pa_cons (pe_glob (v := .ref T.C_Mismatch) (by rfl) T.E_Mismatch.g rfl) pa_nil)))) (pw_or1 (pt_val (pe_callB (call_isD hz hf) (by rfl) T.z_isinstance (by decide +kernel) (pa_cons (pv 2) (pa_cons (pe_glob (v := .ref T.C_TooLarge) (by rfl) T.E_TooLarge.g rfl) pa_nil))))))))) (pss_one (ps_expr (pe_bm PySem.F.plainAttrs_list PySem.F.slot_list_append PySem.F.type_list_append mt_append (pv 1) (pa_cons (pe_tup (pa_cons pe_str (pa_cons pe_int pa_nil))) pa_nil)))) pss_nil)
      (pss_one (ps_if (PW.pt (pw_or (pt_cmpR op_ne (pe_callB call_len_seq (by rfl) T.z_len PySem.boot_len (pa_cons (pv 1) pa_nil)) pe_int (nomark _)) (pw_or1 (pt_not (pt_val (pe_callB (call_isD hz hf) (by rfl) T.z_isinstance (by decide +kernel) (pa_cons (pv 2) (pa_cons (pe_bltn (v := .ty "ValueError") (by rfl) T.z_ValueError (by decide +kernel) rfl) pa_nil)))))))) (pss_one (ps_ret (pe_tup (pa_cons pe_str (pa_cons (pe_callB call_len_seq (by rfl) T.z_len PySem.boot_len (pa_cons (pv 1) pa_nil)) (pa_cons pe_int pa_nil)))))) pss_nil))))))), ?_⟩
    refine ⟨_, rfl, _, _, _, true, rfl, T.E_BadLetters.i, rfl, fun u r => r, fun x e => ⟨_, by cases e; exact hd⟩, T.k_BadLetters_BadLetters, _, rfl, iteT ?_⟩
    refine ⟨_, rfl, .inl ⟨rfl, _, .inl (.inl hD)⟩, _, rfl, rfl, rfl, dd, _, v, rfl, hd, rfl, by show 2 ≤ sizeLine; decide, fun t nt => ?_⟩
    have hD2 : (upd H' t (.tup [.str (Str.ofString "BadLetters"), v])) D = some (.lst []) := same_new nt _ _ hD
    refine ⟨D, _, _, rfl, rfl, hD2, by show 0 < sizeLine; decide, ?_⟩
    have tD : t ≠ D := fun e => by
      rw [e, hD] at nt
      cases nt
    have hd3 : (upd (upd H' t (.tup [.str (Str.ofString "BadLetters"), v])) D (.lst [.ref t])) dd = some (.xd [("value", v)]) := by
      rw [upd_ne ne]
      exact same_new nt _ _ hd
    have hD3 : (upd (upd H' t (.tup [.str (Str.ofString "BadLetters"), v])) D (.lst [.ref t])) D = some (.lst [.ref t]) := upd_same
    have ht3 : (upd (upd H' t (.tup [.str (Str.ofString "BadLetters"), v])) D (.lst [.ref t])) t = some (.tup [.str (Str.ofString "BadLetters"), v]) := by
      rw [upd_ne tD, upd_same]
    have sm3 : Same H (upd (upd H' t (.tup [.str (Str.ofString "BadLetters"), v])) D (.lst [.ref t])) := (Same.refl H).grown nD (((same_new nD).trans sm).trans (same_new nt)) hD2
    refine ⟨_, rfl, _, _, _, false, rfl, T.E_BadLetters.i, rfl, fun u r => r, fun x e => ⟨_, by cases e; exact hd3⟩, T.k_BadLetters_BadWord, _, rfl, iteF ?_⟩
    refine ⟨_, rfl, _, _, _, false, rfl, T.E_BadLetters.i, rfl, fun u r => r, fun x e => ⟨_, by cases e; exact hd3⟩, T.k_BadLetters_BadNumber, _, rfl, iteF ?_⟩
    refine ⟨_, rfl, _, _, _, false, rfl, T.E_BadLetters.i, rfl, fun u r => r, fun x e => ⟨_, by cases e; exact hd3⟩, T.k_BadLetters_BadName, _, rfl, iteF ?_⟩
    refine ⟨_, rfl, _, _, _, false, rfl, T.E_BadLetters.i, rfl, fun u r => r, fun x e => ⟨_, by cases e; exact hd3⟩, T.k_BadLetters_BadEntry, _, rfl, iteF ?_⟩
    refine ⟨_, rfl, _, _, _, false, rfl, T.E_BadLetters.i, rfl, fun u r => r, fun x e => ⟨_, by cases e; exact hd3⟩, T.k_BadLetters_BadLine, _, rfl, iteF ?_⟩
    refine ⟨_, rfl, _, _, _, false, rfl, T.E_BadLetters.i, rfl, fun u r => r, fun x e => ⟨_, by cases e; exact hd3⟩, T.k_BadLetters_Mismatch, _, rfl, iteF ?_⟩
    refine ⟨_, rfl, _, _, _, false, rfl, T.E_BadLetters.i, rfl, fun u r => r, fun x e => ⟨_, by cases e; exact hd3⟩, T.k_BadLetters_TooLarge, _, rfl, iteF ?_⟩
    refine ⟨.ref D, rfl, _, _, rfl, .inl (.inl (.inl hD3)), rfl, _, rfl, iteN rfl ?_⟩
    refine ⟨_, rfl, _, _, _, true, rfl, T.E_BadLetters.i, rfl, fun u r => r, fun x e => ⟨_, by cases e; exact hd3⟩, T.k_BadLetters_ValueError, _, rfl, iteF ?_⟩
    exact ⟨.ref D, rfl, _, _, _, _, rfl, rfl, .inl (.inl hD3), rfl, q t _ sm3 ht3⟩
  · refine ⟨true, T.x_BadWord_LagError, fun _ a na => ?_, fun z => by cases z⟩
    intro oe pn hz hf
    refine ⟨_, (pss_cons (ps_if (pt_val (pe_callB (call_isD hz hf) (by rfl) T.z_isinstance (by decide +kernel) (pa_cons (pv 2) (pa_cons (pe_glob (v := .ref T.C_BadLetters) (by rfl) T.E_BadLetters.g rfl) pa_nil)))) (pss_one (ps_expr (pe_bm PySem.F.plainAttrs_list PySem.F.slot_list_append PySem.F.type_list_append mt_append (pv 1) (pa_cons (pe_tup (pa_cons pe_str (pa_cons (by exact pe_xf T.E_BadLetters.f T.no_BadLetters_value hz hf (pv 2)) pa_nil))) pa_nil)))) pss_nil)
      (pss_cons (ps_if (pt_val (pe_callB (call_isD hz hf) (by rfl) T.z_isinstance (by decide +kernel) (pa_cons (pv 2) (pa_cons (pe_glob (v := .ref T.C_BadWord) (by rfl) T.E_BadWord.g rfl) pa_nil)))) (pss_one (ps_expr (pe_bm PySem.F.plainAttrs_list PySem.F.slot_list_append PySem.F.type_list_append mt_append (pv 1) (pa_cons (pe_tup (pa_cons pe_str (pa_cons (by exact pe_xf T.E_BadWord.f T.no_BadWord_value hz hf (pv 2)) pa_nil))) pa_nil)))) pss_nil)
      (pss_cons (ps_if (pt_val (pe_callB (call_isD hz hf) (by rfl) T.z_isinstance (by decide +kernel) (pa_cons (pv 2) (pa_cons (pe_glob (v := .ref T.C_BadNumber) (by rfl) T.E_BadNumber.g rfl) pa_nil)))) (pss_one (ps_expr (pe_bm PySem.F.plainAttrs_list PySem.F.slot_list_append PySem.F.type_list_append mt_append (pv 1) (pa_cons (pe_tup (pa_cons pe_str (pa_cons (by exact pe_xf T.E_BadNumber.f T.no_BadNumber_value hz hf (pv 2)) pa_nil))) pa_nil)))) pss_nil)
      (pss_cons (ps_if (pt_val (pe_callB (call_isD hz hf) (by rfl) T.z_isinstance (by decide +kernel) (pa_cons (pv 2) (pa_cons (pe_glob (v := .ref T.C_BadName) (by rfl) T.E_BadName.g rfl) pa_nil)))) (pss_one (ps_expr (pe_bm PySem.F.plainAttrs_list PySem.F.slot_list_append PySem.F.type_list_append mt_append (pv 1) (pa_cons (pe_tup (pa_cons pe_str (pa_cons (by exact pe_xf T.E_BadName.f T.no_BadName_value hz hf (pv 2)) pa_nil))) pa_nil)))) pss_nil)
      (pss_cons (ps_if (PW.pt (pw_or (pt_val (pe_callB (call_isD hz hf) (by rfl) T.z_isinstance (by decide +kernel) (pa_cons (pv 2) (pa_cons (pe_glob (v := .ref T.C_BadEntry) (by rfl) T.E_BadEntry.g rfl) pa_nil)))) (pw_or (pt_val (pe_callB (call_isD hz hf) (by rfl) T.z_isinstance (by decide +kernel) (pa_cons (pv 2) (pa_cons (pe_glob (v := .ref T.C_BadLine) (by rfl) T.E_BadLine.g rfl) pa_nil)))) (pw_or (pt_val (pe_callB (call_isD hz hf) (by rfl) T.z_isinstance (by decide +kernel) (pa_cons (pv 2) (pa_cons (pe_glob (v := .ref T.C_Mismatch) (by rfl) T.E_Mismatch.g rfl) pa_nil)))) (pw_or1 (pt_val (pe_callB (call_isD hz hf) (by rfl) T.z_isinstance (by decide +kernel) (pa_cons (pv 2) (pa_cons (pe_glob (v := .ref T.C_TooLarge) (by rfl) T.E_TooLarge.g rfl) pa_nil))))))))) (pss_one (ps_expr (pe_bm PySem.F.plainAttrs_list PySem.F.slot_list_append PySem.F.type_list_append mt_append (pv 1) (pa_cons (pe_tup (pa_cons pe_str (pa_cons pe_int pa_nil))) pa_nil)))) pss_nil)
      (pss_one (ps_if (PW.pt (pw_or (pt_cmpR op_ne (pe_callB call_len_seq (by rfl) T.z_len PySem.boot_len (pa_cons (pv 1) pa_nil)) pe_int (nomark _)) (pw_or1 (pt_not (pt_val (pe_callB (call_isD hz hf) (by rfl) T.z_isinstance (by decide +kernel) (pa_cons (pv 2) (pa_cons (pe_bltn (v := .ty "ValueError") (by rfl) T.z_ValueError (by decide +kernel) rfl) pa_nil)))))))) (pss_one (ps_ret (pe_tup (pa_cons pe_str (pa_cons (pe_callB call_len_seq (by rfl) T.z_len PySem.boot_len (pa_cons (pv 1) pa_nil)) (pa_cons pe_int pa_nil)))))) pss_nil))))))), ?_⟩
    refine ⟨_, rfl, _, _, _, false, rfl, T.E_BadWord.i, rfl, fun u r => r, fun x e => ⟨_, by cases e; exact hd⟩, T.k_BadWord_BadLetters, _, rfl, iteF ?_⟩
    refine ⟨_, rfl, _, _, _, true, rfl, T.E_BadWord.i, rfl, fun u r => r, fun x e => ⟨_, by cases e; exact hd⟩, T.k_BadWord_BadWord, _, rfl, iteT ?_⟩
    refine ⟨_, rfl, .inl ⟨rfl, _, .inl (.inl hD)⟩, _, rfl, rfl, rfl, dd, _, v, rfl, hd, rfl, by show 2 ≤ sizeLine; decide, fun t nt => ?_⟩
    have hD2 : (upd H' t (.tup [.str (Str.ofString "BadWord"), v])) D = some (.lst []) := same_new nt _ _ hD
    refine ⟨D, _, _, rfl, rfl, hD2, by show 0 < sizeLine; decide, ?_⟩
    have tD : t ≠ D := fun e => by
      rw [e, hD] at nt
      cases nt
    have hd3 : (upd (upd H' t (.tup [.str (Str.ofString "BadWord"), v])) D (.lst [.ref t])) dd = some (.xd [("value", v)]) := by
      rw [upd_ne ne]
      exact same_new nt _ _ hd
    have hD3 : (upd (upd H' t (.tup [.str (Str.ofString "BadWord"), v])) D (.lst [.ref t])) D = some (.lst [.ref t]) := upd_same
    have ht3 : (upd (upd H' t (.tup [.str (Str.ofString "BadWord"), v])) D (.lst [.ref t])) t = some (.tup [.str (Str.ofString "BadWord"), v]) := by
      rw [upd_ne tD, upd_same]
    have sm3 : Same H (upd (upd H' t (.tup [.str (Str.ofString "BadWord"), v])) D (.lst [.ref t])) := (Same.refl H).grown nD (((same_new nD).trans sm).trans (same_new nt)) hD2
    refine ⟨_, rfl, _, _, _, false, rfl, T.E_BadWord.i, rfl, fun u r => r, fun x e => ⟨_, by cases e; exact hd3⟩, T.k_BadWord_BadNumber, _, rfl, iteF ?_⟩
    refine ⟨_, rfl, _, _, _, false, rfl, T.E_BadWord.i, rfl, fun u r => r, fun x e => ⟨_, by cases e; exact hd3⟩, T.k_BadWord_BadName, _, rfl, iteF ?_⟩
    refine ⟨_, rfl, _, _, _, false, rfl, T.E_BadWord.i, rfl, fun u r => r, fun x e => ⟨_, by cases e; exact hd3⟩, T.k_BadWord_BadEntry, _, rfl, iteF ?_⟩
    refine ⟨_, rfl, _, _, _, false, rfl, T.E_BadWord.i, rfl, fun u r => r, fun x e => ⟨_, by cases e; exact hd3⟩, T.k_BadWord_BadLine, _, rfl, iteF ?_⟩
    refine ⟨_, rfl, _, _, _, false, rfl, T.E_BadWord.i, rfl, fun u r => r, fun x e => ⟨_, by cases e; exact hd3⟩, T.k_BadWord_Mismatch, _, rfl, iteF ?_⟩
    refine ⟨_, rfl, _, _, _, false, rfl, T.E_BadWord.i, rfl, fun u r => r, fun x e => ⟨_, by cases e; exact hd3⟩, T.k_BadWord_TooLarge, _, rfl, iteF ?_⟩
    refine ⟨.ref D, rfl, _, _, rfl, .inl (.inl (.inl hD3)), rfl, _, rfl, iteN rfl ?_⟩
    refine ⟨_, rfl, _, _, _, true, rfl, T.E_BadWord.i, rfl, fun u r => r, fun x e => ⟨_, by cases e; exact hd3⟩, T.k_BadWord_ValueError, _, rfl, iteF ?_⟩
    exact ⟨.ref D, rfl, _, _, _, _, rfl, rfl, .inl (.inl hD3), rfl, q t _ sm3 ht3⟩
  · refine ⟨true, T.x_BadNumber_LagError, fun _ a na => ?_, fun z => by cases z⟩
    intro oe pn hz hf
    refine ⟨_, (pss_cons (ps_if (pt_val (pe_callB (call_isD hz hf) (by rfl) T.z_isinstance (by decide +kernel) (pa_cons (pv 2) (pa_cons (pe_glob (v := .ref T.C_BadLetters) (by rfl) T.E_BadLetters.g rfl) pa_nil)))) (pss_one (ps_expr (pe_bm PySem.F.plainAttrs_list PySem.F.slot_list_append PySem.F.type_list_append mt_append (pv 1) (pa_cons (pe_tup (pa_cons pe_str (pa_cons (by exact pe_xf T.E_BadLetters.f T.no_BadLetters_value hz hf (pv 2)) pa_nil))) pa_nil)))) pss_nil)
      (pss_cons (ps_if (pt_val (pe_callB (call_isD hz hf) (by rfl) T.z_isinstance (by decide +kernel) (pa_cons (pv 2) (pa_cons (pe_glob (v := .ref T.C_BadWord) (by rfl) T.E_BadWord.g rfl) pa_nil)))) (pss_one (ps_expr (pe_bm PySem.F.plainAttrs_list PySem.F.slot_list_append PySem.F.type_list_append mt_append (pv 1) (pa_cons (pe_tup (pa_cons pe_str (pa_cons (by exact pe_xf T.E_BadWord.f T.no_BadWord_value hz hf (pv 2)) pa_nil))) pa_nil)))) pss_nil)
      (pss_cons (ps_if (pt_val (pe_callB (call_isD hz hf) (by rfl) T.z_isinstance (by decide +kernel) (pa_cons (pv 2) (pa_cons (pe_glob (v := .ref T.C_BadNumber) (by rfl) T.E_BadNumber.g rfl) pa_nil)))) (pss_one (ps_expr (pe_bm PySem.F.plainAttrs_list PySem.F.slot_list_append PySem.F.type_list_append mt_append (pv 1) (pa_cons (pe_tup (pa_cons pe_str (pa_cons (by exact pe_xf T.E_BadNumber.f T.no_BadNumber_value hz hf (pv 2)) pa_nil))) pa_nil)))) pss_nil)
      (pss_cons (ps_if (pt_val (pe_callB (call_isD hz hf) (by rfl) T.z_isinstance (by decide +kernel) (pa_cons (pv 2) (pa_cons (pe_glob (v := .ref T.C_BadName) (by rfl) T.E_BadName.g rfl) pa_nil)))) (pss_one (ps_expr (pe_bm PySem.F.plainAttrs_list PySem.F.slot_list_append PySem.F.type_list_append mt_append (pv 1) (pa_cons (pe_tup (pa_cons pe_str (pa_cons (by exact pe_xf T.E_BadName.f T.no_BadName_value hz hf (pv 2)) pa_nil))) pa_nil)))) pss_nil)
      (pss_cons (ps_if (PW.pt (pw_or (pt_val (pe_callB (call_isD hz hf) (by rfl) T.z_isinstance (by decide +kernel) (pa_cons (pv 2) (pa_cons (pe_glob (v := .ref T.C_BadEntry) (by rfl) T.E_BadEntry.g rfl) pa_nil)))) (pw_or (pt_val (pe_callB (call_isD hz hf) (by rfl) T.z_isinstance (by decide +kernel) (pa_cons (pv 2) (pa_cons (pe_glob (v := .ref T.C_BadLine) (by rfl) T.E_BadLine.g rfl) pa_nil)))) (pw_or (pt_val (pe_callB (call_isD hz hf) (by rfl) T.z_isinstance (by decide +kernel) (pa_cons (pv 2) (pa_cons (pe_glob (v := .ref T.C_Mismatch) (by rfl) T.E_Mismatch.g rfl) pa_nil)))) (pw_or1 (pt_val (pe_callB (call_isD hz hf) (by rfl) T.z_isinstance (by decide +kernel) (pa_cons (pv 2) (pa_cons (pe_glob (v := .ref T.C_TooLarge) (by rfl) T.E_TooLarge.g rfl) pa_nil))))))))) (pss_one (ps_expr (pe_bm PySem.F.plainAttrs_list PySem.F.slot_list_append PySem.F.type_list_append mt_append (pv 1) (pa_cons (pe_tup (pa_cons pe_str (pa_cons pe_int pa_nil))) pa_nil)))) pss_nil)
      (pss_one (ps_if (PW.pt (pw_or (pt_cmpR op_ne (pe_callB call_len_seq (by rfl) T.z_len PySem.boot_len (pa_cons (pv 1) pa_nil)) pe_int (nomark _)) (pw_or1 (pt_not (pt_val (pe_callB (call_isD hz hf) (by rfl) T.z_isinstance (by decide +kernel) (pa_cons (pv 2) (pa_cons (pe_bltn (v := .ty "ValueError") (by rfl) T.z_ValueError (by decide +kernel) rfl) pa_nil)))))))) (pss_one (ps_ret (pe_tup (pa_cons pe_str (pa_cons (pe_callB call_len_seq (by rfl) T.z_len PySem.boot_len (pa_cons (pv 1) pa_nil)) (pa_cons pe_int pa_nil)))))) pss_nil))))))), ?_⟩
    refine ⟨_, rfl, _, _, _, false, rfl, T.E_BadNumber.i, rfl, fun u r => r, fun x e => ⟨_, by cases e; exact hd⟩, T.k_BadNumber_BadLetters, _, rfl, iteF ?_⟩
    refine ⟨_, rfl, _, _, _, false, rfl, T.E_BadNumber.i, rfl, fun u r => r, fun x e => ⟨_, by cases e; exact hd⟩, T.k_BadNumber_BadWord, _, rfl, iteF ?_⟩
    refine ⟨_, rfl, _, _, _, true, rfl, T.E_BadNumber.i, rfl, fun u r => r, fun x e => ⟨_, by cases e; exact hd⟩, T.k_BadNumber_BadNumber, _, rfl, iteT ?_⟩
    refine ⟨_, rfl, .inl ⟨rfl, _, .inl (.inl hD)⟩, _, rfl, rfl, rfl, dd, _, v, rfl, hd, rfl, by show 2 ≤ sizeLine; decide, fun t nt => ?_⟩
    have hD2 : (upd H' t (.tup [.str (Str.ofString "BadNumber"), v])) D = some (.lst []) := same_new nt _ _ hD
    refine ⟨D, _, _, rfl, rfl, hD2, by show 0 < sizeLine; decide, ?_⟩
    have tD : t ≠ D := fun e => by
      rw [e, hD] at nt
      cases nt
    have hd3 : (upd (upd H' t (.tup [.str (Str.ofString "BadNumber"), v])) D (.lst [.ref t])) dd = some (.xd [("value", v)]) := by
      rw [upd_ne ne]
      exact same_new nt _ _ hd
    have hD3 : (upd (upd H' t (.tup [.str (Str.ofString "BadNumber"), v])) D (.lst [.ref t])) D = some (.lst [.ref t]) := upd_same
    have ht3 : (upd (upd H' t (.tup [.str (Str.ofString "BadNumber"), v])) D (.lst [.ref t])) t = some (.tup [.str (Str.ofString "BadNumber"), v]) := by
      rw [upd_ne tD, upd_same]
    have sm3 : Same H (upd (upd H' t (.tup [.str (Str.ofString "BadNumber"), v])) D (.lst [.ref t])) := (Same.refl H).grown nD (((same_new nD).trans sm).trans (same_new nt)) hD2
    refine ⟨_, rfl, _, _, _, false, rfl, T.E_BadNumber.i, rfl, fun u r => r, fun x e => ⟨_, by cases e; exact hd3⟩, T.k_BadNumber_BadName, _, rfl, iteF ?_⟩
    refine ⟨_, rfl, _, _, _, false, rfl, T.E_BadNumber.i, rfl, fun u r => r, fun x e => ⟨_, by cases e; exact hd3⟩, T.k_BadNumber_BadEntry, _, rfl, iteF ?_⟩
    refine ⟨_, rfl, _, _, _, false, rfl, T.E_BadNumber.i, rfl, fun u r => r, fun x e => ⟨_, by cases e; exact hd3⟩, T.k_BadNumber_BadLine, _, rfl, iteF ?_⟩
    refine ⟨_, rfl, _, _, _, false, rfl, T.E_BadNumber.i, rfl, fun u r => r, fun x e => ⟨_, by cases e; exact hd3⟩, T.k_BadNumber_Mismatch, _, rfl, iteF ?_⟩
    refine ⟨_, rfl, _, _, _, false, rfl, T.E_BadNumber.i, rfl, fun u r => r, fun x e => ⟨_, by cases e; exact hd3⟩, T.k_BadNumber_TooLarge, _, rfl, iteF ?_⟩
    refine ⟨.ref D, rfl, _, _, rfl, .inl (.inl (.inl hD3)), rfl, _, rfl, iteN rfl ?_⟩
    refine ⟨_, rfl, _, _, _, true, rfl, T.E_BadNumber.i, rfl, fun u r => r, fun x e => ⟨_, by cases e; exact hd3⟩, T.k_BadNumber_ValueError, _, rfl, iteF ?_⟩
    exact ⟨.ref D, rfl, _, _, _, _, rfl, rfl, .inl (.inl hD3), rfl, q t _ sm3 ht3⟩
  · refine ⟨true, T.x_BadName_LagError, fun _ a na => ?_, fun z => by cases z⟩
    intro oe pn hz hf
    refine ⟨_, (pss_cons (ps_if (pt_val (pe_callB (call_isD hz hf) (by rfl) T.z_isinstance (by decide +kernel) (pa_cons (pv 2) (pa_cons (pe_glob (v := .ref T.C_BadLetters) (by rfl) T.E_BadLetters.g rfl) pa_nil)))) (pss_one (ps_expr (pe_bm PySem.F.plainAttrs_list PySem.F.slot_list_append PySem.F.type_list_append mt_append (pv 1) (pa_cons (pe_tup (pa_cons pe_str (pa_cons (by exact pe_xf T.E_BadLetters.f T.no_BadLetters_value hz hf (pv 2)) pa_nil))) pa_nil)))) pss_nil)
      (pss_cons (ps_if (pt_val (pe_callB (call_isD hz hf) (by rfl) T.z_isinstance (by decide +kernel) (pa_cons (pv 2) (pa_cons (pe_glob (v := .ref T.C_BadWord) (by rfl) T.E_BadWord.g rfl) pa_nil)))) (pss_one (ps_expr (pe_bm PySem.F.plainAttrs_list PySem.F.slot_list_append PySem.F.type_list_append mt_append (pv 1) (pa_cons (pe_tup (pa_cons pe_str (pa_cons (by exact pe_xf T.E_BadWord.f T.no_BadWord_value hz hf (pv 2)) pa_nil))) pa_nil)))) pss_nil)
      (pss_cons (ps_if (pt_val (pe_callB (call_isD hz hf) (by rfl) T.z_isinstance (by decide +kernel) (pa_cons (pv 2) (pa_cons (pe_glob (v := .ref T.C_BadNumber) (by rfl) T.E_BadNumber.g rfl) pa_nil)))) (pss_one (ps_expr (pe_bm PySem.F.plainAttrs_list PySem.F.slot_list_append PySem.F.type_list_append mt_append (pv 1) (pa_cons (pe_tup (pa_cons pe_str (pa_cons (by exact pe_xf T.E_BadNumber.f T.no_BadNumber_value hz hf (pv 2)) pa_nil))) pa_nil)))) pss_nil)
      (pss_cons (ps_if (pt_val (pe_callB (call_isD hz hf) (by rfl) T.z_isinstance (by decide +kernel) (pa_cons (pv 2) (pa_cons (pe_glob (v := .ref T.C_BadName) (by rfl) T.E_BadName.g rfl) pa_nil)))) (pss_one (ps_expr (pe_bm PySem.F.plainAttrs_list PySem.F.slot_list_append PySem.F.type_list_append mt_append (pv 1) (pa_cons (pe_tup (pa_cons pe_str (pa_cons (by exact pe_xf T.E_BadName.f T.no_BadName_value hz hf (pv 2)) pa_nil))) pa_nil)))) pss_nil)
      (pss_cons (ps_if (PW.pt (pw_or (pt_val (pe_callB (call_isD hz hf) (by rfl) T.z_isinstance (by decide +kernel) (pa_cons (pv 2) (pa_cons (pe_glob (v := .ref T.C_BadEntry) (by rfl) T.E_BadEntry.g rfl) pa_nil)))) (pw_or (pt_val (pe_callB (call_isD hz hf) (by rfl) T.z_isinstance (by decide +kernel) (pa_cons (pv 2) (pa_cons (pe_glob (v := .ref T.C_BadLine) (by rfl) T.E_BadLine.g rfl) pa_nil)))) (pw_or (pt_val (pe_callB (call_isD hz hf) (by rfl) T.z_isinstance (by decide +kernel) (pa_cons (pv 2) (pa_cons (pe_glob (v := .ref T.C_Mismatch) (by rfl) T.E_Mismatch.g rfl) pa_nil)))) (pw_or1 (pt_val (pe_callB (call_isD hz hf) (by rfl) T.z_isinstance (by decide +kernel) (pa_cons (pv 2) (pa_cons (pe_glob (v := .ref T.C_TooLarge) (by rfl) T.E_TooLarge.g rfl) pa_nil))))))))) (pss_one (ps_expr (pe_bm PySem.F.plainAttrs_list PySem.F.slot_list_append PySem.F.type_list_append mt_append (pv 1) (pa_cons (pe_tup (pa_cons pe_str (pa_cons pe_int pa_nil))) pa_nil)))) pss_nil)
      (pss_one (ps_if (PW.pt (pw_or (pt_cmpR op_ne (pe_callB call_len_seq (by rfl) T.z_len PySem.boot_len (pa_cons (pv 1) pa_nil)) pe_int (nomark _)) (pw_or1 (pt_not (pt_val (pe_callB (call_isD hz hf) (by rfl) T.z_isinstance (by decide +kernel) (pa_cons (pv 2) (pa_cons (pe_bltn (v := .ty "ValueError") (by rfl) T.z_ValueError (by decide +kernel) rfl) pa_nil)))))))) (pss_one (ps_ret (pe_tup (pa_cons pe_str (pa_cons (pe_callB call_len_seq (by rfl) T.z_len PySem.boot_len (pa_cons (pv 1) pa_nil)) (pa_cons pe_int pa_nil)))))) pss_nil))))))), ?_⟩
    refine ⟨_, rfl, _, _, _, false, rfl, T.E_BadName.i, rfl, fun u r => r, fun x e => ⟨_, by cases e; exact hd⟩, T.k_BadName_BadLetters, _, rfl, iteF ?_⟩
    refine ⟨_, rfl, _, _, _, false, rfl, T.E_BadName.i, rfl, fun u r => r, fun x e => ⟨_, by cases e; exact hd⟩, T.k_BadName_BadWord, _, rfl, iteF ?_⟩
    refine ⟨_, rfl, _, _, _, false, rfl, T.E_BadName.i, rfl, fun u r => r, fun x e => ⟨_, by cases e; exact hd⟩, T.k_BadName_BadNumber, _, rfl, iteF ?_⟩
    refine ⟨_, rfl, _, _, _, true, rfl, T.E_BadName.i, rfl, fun u r => r, fun x e => ⟨_, by cases e; exact hd⟩, T.k_BadName_BadName, _, rfl, iteT ?_⟩
    refine ⟨_, rfl, .inl ⟨rfl, _, .inl (.inl hD)⟩, _, rfl, rfl, rfl, dd, _, v, rfl, hd, rfl, by show 2 ≤ sizeLine; decide, fun t nt => ?_⟩
    have hD2 : (upd H' t (.tup [.str (Str.ofString "BadName"), v])) D = some (.lst []) := same_new nt _ _ hD
    refine ⟨D, _, _, rfl, rfl, hD2, by show 0 < sizeLine; decide, ?_⟩
    have tD : t ≠ D := fun e => by
      rw [e, hD] at nt
      cases nt
    have hd3 : (upd (upd H' t (.tup [.str (Str.ofString "BadName"), v])) D (.lst [.ref t])) dd = some (.xd [("value", v)]) := by
      rw [upd_ne ne]
      exact same_new nt _ _ hd
    have hD3 : (upd (upd H' t (.tup [.str (Str.ofString "BadName"), v])) D (.lst [.ref t])) D = some (.lst [.ref t]) := upd_same
    have ht3 : (upd (upd H' t (.tup [.str (Str.ofString "BadName"), v])) D (.lst [.ref t])) t = some (.tup [.str (Str.ofString "BadName"), v]) := by
      rw [upd_ne tD, upd_same]
    have sm3 : Same H (upd (upd H' t (.tup [.str (Str.ofString "BadName"), v])) D (.lst [.ref t])) := (Same.refl H).grown nD (((same_new nD).trans sm).trans (same_new nt)) hD2
    refine ⟨_, rfl, _, _, _, false, rfl, T.E_BadName.i, rfl, fun u r => r, fun x e => ⟨_, by cases e; exact hd3⟩, T.k_BadName_BadEntry, _, rfl, iteF ?_⟩
    refine ⟨_, rfl, _, _, _, false, rfl, T.E_BadName.i, rfl, fun u r => r, fun x e => ⟨_, by cases e; exact hd3⟩, T.k_BadName_BadLine, _, rfl, iteF ?_⟩
    refine ⟨_, rfl, _, _, _, false, rfl, T.E_BadName.i, rfl, fun u r => r, fun x e => ⟨_, by cases e; exact hd3⟩, T.k_BadName_Mismatch, _, rfl, iteF ?_⟩
    refine ⟨_, rfl, _, _, _, false, rfl, T.E_BadName.i, rfl, fun u r => r, fun x e => ⟨_, by cases e; exact hd3⟩, T.k_BadName_TooLarge, _, rfl, iteF ?_⟩
    refine ⟨.ref D, rfl, _, _, rfl, .inl (.inl (.inl hD3)), rfl, _, rfl, iteN rfl ?_⟩
    refine ⟨_, rfl, _, _, _, true, rfl, T.E_BadName.i, rfl, fun u r => r, fun x e => ⟨_, by cases e; exact hd3⟩, T.k_BadName_ValueError, _, rfl, iteF ?_⟩
    exact ⟨.ref D, rfl, _, _, _, _, rfl, rfl, .inl (.inl hD3), rfl, q t _ sm3 ht3⟩

def sp_is_integer (_ : PySem.W.Frag) : Sp := fun vs H Q _ => ∃ v : V, vs = [v] ∧ Shal H v ∧ Q (.bl (isInt v)) H
theorem ok_is_integer (T : Txt K mg base) : FnOk P w K mg base CX0 (0 + 1) T.f_is_integer T.fd_is_integer ["value"] (sp_is_integer K) := by
  refine T.F_is_integer.ok sc_is_integer (fun vs H Q E h => ?_) (fun cdv A outer s H vs Q E hr h => ?_)
  · obtain ⟨i, rfl, _⟩ := h
    rfl
  · obtain ⟨v, rfl, sv, q⟩ := h
    refine ⟨_, (pss_one (ps_ret (pe_and (pe_callB call_isi (by rfl) T.z_isinstance (by decide +kernel) (pa_cons (pv 0) (pa_cons (pe_bltn (v := .ty "int") (by rfl) T.z_int (by decide +kernel) rfl) pa_nil))) (pe_one (pe_not (pe_callB call_isi (by rfl) T.z_isinstance (by decide +kernel) (pa_cons (pv 0) (pa_cons (pe_bltn (v := .ty "bool") (by rfl) T.z_bool (by decide +kernel) rfl) pa_nil)))))))), ?_⟩
    obtain ⟨t1, h1, k1⟩ := isi_int (K := K) sv
    obtain ⟨t2, h2, k2⟩ := isi_bool (K := K) sv
    refine ⟨_, rfl, _, _, _, _, _, rfl, .ty _, h1, k1, _, rfl, ?_⟩
    cases e : (isInt v || isBl v) with
    | false =>
      refine iteF ?_
      have : isInt v = false := by
        cases hv : isInt v <;> rw [hv] at e <;> first | rfl | cases e
      rw [this] at q
      exact q
    | true =>
      refine iteT ⟨_, rfl, _, _, _, _, _, rfl, .ty _, h2, k2, _, rfl, ?_⟩
      have : (!isBl v) = isInt v := by
        cases v <;> first | rfl | cases e
      rw [this]
      exact q

def sp_sameR (rel : Hp → V → V → Prop) : Sp := fun vs H Q _ => ∃ x y : V, vs = [x, y] ∧ rel H x y ∧ Q (.bl true) H
theorem same_bit {x : V} {Q : VK} {H : Hp} (q : Q (.bl true) H) : Q (.bl (decide (x = x))) H := by
  rw [decide_eq_true rfl]
  exact q
theorem same_step {rel : Hp → V → V → Prop} {j : Nat} (T : Txt K mg base) (G : FnOk P w K mg base CX0 j T.f_same T.fd_same ["actual", "expected"] (sp_sameR rel)) :
    FnOk P w K mg base CX0 (j + 1) T.f_same T.fd_same ["actual", "expected"] (sp_sameR (SameR rel)) := by
  refine T.F_same.ok sc_same (fun vs H Q E h => ?_) (fun cdv A outer s H vs Q E hr h => ?_)
  · obtain ⟨x, y, rfl, _⟩ := h
    rfl
  · obtain ⟨x, y, rfl, h, q⟩ := h
    refine ⟨_, (pss_cons (ps_if (pt_cmpR op_isN (pv 1) pe_non (nomark _)) (pss_one (ps_ret (pe_cmpR op_isN (pv 0) pe_non (nomark _)))) pss_nil)
      (pss_cons (ps_if (pt_val (pe_callB call_isi (by rfl) T.z_isinstance (by decide +kernel) (pa_cons (pv 1) (pa_cons (pe_bltn (v := .ty "bool") (by rfl) T.z_bool (by decide +kernel) rfl) pa_nil)))) (pss_one (ps_ret (pe_and (pe_callB call_isi (by rfl) T.z_isinstance (by decide +kernel) (pa_cons (pv 0) (pa_cons (pe_bltn (v := .ty "bool") (by rfl) T.z_bool (by decide +kernel) rfl) pa_nil))) (pe_one (pe_cmpR op_eq (pv 0) (pv 1) (nomark _)))))) pss_nil)
      (pss_cons (ps_if (pt_val (pe_callB call_isi (by rfl) T.z_isinstance (by decide +kernel) (pa_cons (pv 1) (pa_cons (pe_bltn (v := .ty "int") (by rfl) T.z_int (by decide +kernel) rfl) pa_nil)))) (pss_one (ps_ret (pe_and (pe_callB call_isi (by rfl) T.z_isinstance (by decide +kernel) (pa_cons (pv 0) (pa_cons (pe_bltn (v := .ty "int") (by rfl) T.z_int (by decide +kernel) rfl) pa_nil))) (pe_and (pe_not (pe_callB call_isi (by rfl) T.z_isinstance (by decide +kernel) (pa_cons (pv 0) (pa_cons (pe_bltn (v := .ty "bool") (by rfl) T.z_bool (by decide +kernel) rfl) pa_nil)))) (pe_one (pe_cmpR op_eq (pv 0) (pv 1) (nomark _))))))) pss_nil)
      (pss_cons (ps_if (pt_val (pe_callB call_isi (by rfl) T.z_isinstance (by decide +kernel) (pa_cons (pv 1) (pa_cons (pe_bltn (v := .ty "str") (by rfl) T.z_str (by decide +kernel) rfl) pa_nil)))) (pss_one (ps_ret (pe_and (pe_callB call_isi (by rfl) T.z_isinstance (by decide +kernel) (pa_cons (pv 0) (pa_cons (pe_bltn (v := .ty "str") (by rfl) T.z_str (by decide +kernel) rfl) pa_nil))) (pe_one (pe_cmpR op_eq (pv 0) (pv 1) (nomark _)))))) pss_nil)
      (pss_cons (ps_if (pt_val (pe_callB call_isi (by rfl) T.z_isinstance (by decide +kernel) (pa_cons (pv 1) (pa_cons (pe_bltn (v := .ty "tuple") (by rfl) T.z_tuple (by decide +kernel) rfl) pa_nil)))) (pss_one (ps_if (pt_not (pt_val (pe_callB call_isi (by rfl) T.z_isinstance (by decide +kernel) (pa_cons (pv 0) (pa_cons (pe_bltn (v := .ty "tuple") (by rfl) T.z_tuple (by decide +kernel) rfl) pa_nil))))) (pss_one (ps_ret pe_bl)) pss_nil)) (pss_one (ps_if (PW.pt (pw_or (pt_not (pt_val (pe_callB call_isi (by rfl) T.z_isinstance (by decide +kernel) (pa_cons (pv 0) (pa_cons (pe_bltn (v := .ty "list") (by rfl) T.z_list (by decide +kernel) rfl) pa_nil))))) (pw_or1 (pt_not (pt_val (pe_callB call_isi (by rfl) T.z_isinstance (by decide +kernel) (pa_cons (pv 1) (pa_cons (pe_bltn (v := .ty "list") (by rfl) T.z_list (by decide +kernel) rfl) pa_nil)))))))) (pss_one (ps_ret pe_bl)) pss_nil)))
      (pss_cons (ps_if (pt_cmpR op_ne (pe_callB call_len (by rfl) T.z_len PySem.boot_len (pa_cons (pv 0) pa_nil)) (pe_callB call_len (by rfl) T.z_len PySem.boot_len (pa_cons (pv 1) pa_nil)) (nomark _)) (pss_one (ps_ret pe_bl)) pss_nil)
      (pss_cons (ps_for PassesOwn.never rfl (pi_range1 (by rfl) T.z_range (pa_cons (pe_callB call_len (by rfl) T.z_len PySem.boot_len (pa_cons (pv 1) pa_nil)) pa_nil)) (pg_name (i := 2) sc_same.nd rfl (.inl rfl)) (pss_one (ps_if (pt_not (pt_val (pe_call G (hr.mono (by first | decide | exact Nat.le_refl _)) (by rfl) T.g_same T.F_same.kp T.b_same .nil pass0 (pa_cons (pe_ix ix_seq (pv 0) (pv 2) (fun _ _ => rfl)) (pa_cons (pe_ix ix_seq (pv 1) (pv 2) (fun _ _ => rfl)) pa_nil))))) (pss_one (ps_ret pe_bl)) pss_nil)))
      (pss_one (ps_ret pe_bl))))))))), ?_⟩
    rcases h with ⟨rfl, hy⟩ | ⟨p, r, xs, ys, rfl, rfl, ho, hl, hb, hi⟩
    · cases x with
      | non => exact ⟨_, rfl, rfl, _, rfl, iteC rfl ⟨_, rfl, rfl, q⟩⟩
      | bl b => exact ⟨_, rfl, rfl, _, rfl, iteN rfl ⟨_, rfl, _, _, _, _, true, rfl, .ty _, .base (.bl b), kit_ty (by decide +kernel), _, rfl, iteT ⟨_, rfl, _, _, _, _, true, rfl, .ty _, .base (.bl b), kit_ty (by decide +kernel), _, rfl, iteT ⟨_, rfl, _, rfl, rfl, same_bit q⟩⟩⟩⟩
      | int b =>
        refine ⟨_, rfl, rfl, _, rfl, iteN rfl ⟨_, rfl, _, _, _, _, false, rfl, .ty _, .base (.int b), kit_ty (by decide +kernel), _, rfl, iteF ?_⟩⟩
        refine ⟨_, rfl, _, _, _, _, true, rfl, .ty _, .base (.int b), kit_ty (by decide +kernel), _, rfl, iteT ?_⟩
        exact ⟨_, rfl, _, _, _, _, true, rfl, .ty _, .base (.int b), kit_ty (by decide +kernel), _, rfl, iteT ⟨_, rfl, _, _, _, _, false, rfl, .ty _, .base (.int b), kit_ty (by decide +kernel), _, rfl, _, rfl, iteT ⟨_, rfl, _, rfl, rfl, same_bit q⟩⟩⟩
      | str b =>
        refine ⟨_, rfl, rfl, _, rfl, iteN rfl ⟨_, rfl, _, _, _, _, false, rfl, .ty _, .base (.str b), kit_ty (by decide +kernel), _, rfl, iteF ?_⟩⟩
        refine ⟨_, rfl, _, _, _, _, false, rfl, .ty _, .base (.str b), kit_ty (by decide +kernel), _, rfl, iteF ?_⟩
        refine ⟨_, rfl, _, _, _, _, true, rfl, .ty _, .base (.str b), kit_ty (by decide +kernel), _, rfl, iteT ?_⟩
        exact ⟨_, rfl, _, _, _, _, true, rfl, .ty _, .base (.str b), kit_ty (by decide +kernel), _, rfl, iteT ⟨_, rfl, _, rfl, rfl, same_bit q⟩⟩
      | byt b => cases hy
      | flt b => cases hy
      | ref b => cases hy
      | ty b => cases hy
    · refine ⟨_, rfl, rfl, _, rfl, iteN rfl ?_⟩
      rcases ho with ⟨o1, o2⟩ | ⟨o1, o2⟩
      · refine ⟨_, rfl, _, _, _, _, false, rfl, .ty _, .base (.tup o2), kit_ty (by decide +kernel), _, rfl, iteF ?_⟩
        refine ⟨_, rfl, _, _, _, _, false, rfl, .ty _, .base (.tup o2), kit_ty (by decide +kernel), _, rfl, iteF ?_⟩
        refine ⟨_, rfl, _, _, _, _, false, rfl, .ty _, .base (.tup o2), kit_ty (by decide +kernel), _, rfl, iteF ?_⟩
        refine ⟨_, rfl, _, _, _, _, true, rfl, .ty _, .base (.tup o2), kit_ty (by decide +kernel), _, rfl, iteT ?_⟩
        refine ⟨_, rfl, _, _, _, _, true, rfl, .ty _, .base (.tup o1), kit_ty (by decide +kernel), _, rfl, iteF ?_⟩
        refine ⟨_, rfl, _, _, rfl, .inr ⟨_, .inl (.inl o1), rfl⟩, _, rfl, _, _, rfl, .inr ⟨_, .inl (.inl o2), rfl⟩, rfl, _, rfl, iteN (by rw [hl]; simp) ?_⟩
        refine ⟨_, rfl, _, _, rfl, .inr ⟨_, .inl (.inl o2), rfl⟩, (ys.length : Int), rfl, by omega, by omega, ?_⟩
        refine for_range (lo := 0) (n := (ys.length : Int).toNat) (fun i σ H' => ∃ z : Option V, σ = [some (.ref p), some (.ref r), z] ∧ H' = H) ⟨none, rfl, rfl⟩ ?_ ?_
        · rintro i σ H' hn ⟨z, rfl, rfl⟩
          have hn' : i < ys.length := hn
          have hx : xs[i]? = some xs[i] := List.getElem?_eq_getElem (by omega)
          have hy : ys[i]? = some ys[i] := List.getElem?_eq_getElem hn'
          refine ⟨_, rfl, _, rfl, .inr (.inl ⟨_, _, _, _, rfl, rfl, .inl (.inl o1), (by rw [Int.zero_add]; exact atI_nat hx), _, rfl, _, rfl, .inr (.inl ⟨_, _, _, _, rfl, rfl, .inl (.inl o2), (by rw [Int.zero_add]; exact atI_nat hy), _, _, rfl, hi i _ _ hx hy, _, rfl, iteN rfl ⟨_, rfl, rfl⟩⟩)⟩)⟩
        · rintro σ H' ⟨z, rfl, rfl⟩
          exact q
      · refine ⟨_, rfl, _, _, _, _, false, rfl, .ty _, .base (.lst o2), kit_ty (by decide +kernel), _, rfl, iteF ?_⟩
        refine ⟨_, rfl, _, _, _, _, false, rfl, .ty _, .base (.lst o2), kit_ty (by decide +kernel), _, rfl, iteF ?_⟩
        refine ⟨_, rfl, _, _, _, _, false, rfl, .ty _, .base (.lst o2), kit_ty (by decide +kernel), _, rfl, iteF ?_⟩
        refine ⟨_, rfl, _, _, _, _, false, rfl, .ty _, .base (.lst o2), kit_ty (by decide +kernel), _, rfl, iteF ?_⟩
        refine ⟨_, rfl, _, _, _, _, true, rfl, .ty _, .base (.lst o1), kit_ty (by decide +kernel), _, rfl, iteN rfl ⟨_, rfl, _, _, _, _, true, rfl, .ty _, .base (.lst o2), kit_ty (by decide +kernel), _, rfl, iteN rfl ?_⟩⟩
        refine ⟨_, rfl, _, _, rfl, .inl ⟨_, .inl (.inl o1), rfl⟩, _, rfl, _, _, rfl, .inl ⟨_, .inl (.inl o2), rfl⟩, rfl, _, rfl, iteN (by rw [hl]; simp) ?_⟩
        refine ⟨_, rfl, _, _, rfl, .inl ⟨_, .inl (.inl o2), rfl⟩, (ys.length : Int), rfl, by omega, by omega, ?_⟩
        refine for_range (lo := 0) (n := (ys.length : Int).toNat) (fun i σ H' => ∃ z : Option V, σ = [some (.ref p), some (.ref r), z] ∧ H' = H) ⟨none, rfl, rfl⟩ ?_ ?_
        · rintro i σ H' hn ⟨z, rfl, rfl⟩
          have hn' : i < ys.length := hn
          have hx : xs[i]? = some xs[i] := List.getElem?_eq_getElem (by omega)
          have hy : ys[i]? = some ys[i] := List.getElem?_eq_getElem hn'
          refine ⟨_, rfl, _, rfl, .inl ⟨_, _, _, _, rfl, rfl, .inl (.inl o1), (by rw [Int.zero_add]; exact atI_nat hx), _, rfl, _, rfl, .inl ⟨_, _, _, _, rfl, rfl, .inl (.inl o2), (by rw [Int.zero_add]; exact atI_nat hy), _, _, rfl, hi i _ _ hx hy, _, rfl, iteN rfl ⟨_, rfl, rfl⟩⟩⟩⟩
        · rintro σ H' ⟨z, rfl, rfl⟩
          exact q
/-- no promise at all -/
theorem fnOk_none {f : Addr} {fd : FuncData} {ps : List Str} {k : Nat} : FnOk P w K mg base CX0 k f fd ps (sp_sameR fun _ _ _ => False) :=
  ⟨fun vs H Q E h => by obtain ⟨_, _, _, h, _⟩ := h; exact h.elim, fun A outer s H args us vs Q E _ _ _ _ h => by obtain ⟨_, _, _, h, _⟩ := h; exact h.elim⟩
theorem ok_sameN (T : Txt K mg base) : ∀ n : Nat, FnOk P w K mg base CX0 (n + 1) T.f_same T.fd_same ["actual", "expected"] (sp_sameR (SameD n))
  | 0 => same_step T fnOk_none
  | n + 1 => same_step T (ok_sameN T n)
theorem ok_same (T : Txt K mg base) : FnOk P w K mg base CX0 10 T.f_same T.fd_same ["actual", "expected"] (sp_sameR (SameD 9)) := ok_sameN T 9
def sp_sameB (rel : Hp → V → V → Prop) (dp : Hp → V → Prop) : Sp := fun vs H Q _ => ∃ x y : V, vs = [x, y] ∧ dp H x ∧ dp H y ∧ ∀ b : Bool, (b = true ↔ rel H x y) → Q (.bl b) H
theorem sameB_step {rel : Hp → V → V → Prop} {dp : Hp → V → Prop} {j : Nat} (T : Txt K mg base) (G : FnOk P w K mg base CX0 j T.f_same T.fd_same ["actual", "expected"] (sp_sameB rel dp)) :
    FnOk P w K mg base CX0 (j + 1) T.f_same T.fd_same ["actual", "expected"] (sp_sameB (SameR rel) (DeepE dp)) := by
  refine T.F_same.ok sc_same (fun vs H Q E h => ?_) (fun cdv A outer s H vs Q E hr h => ?_)
  · obtain ⟨x, y, rfl, _⟩ := h
    rfl
  · obtain ⟨x, y, rfl, dx, dy, q⟩ := h
    refine ⟨_, (pss_cons (ps_if (pt_cmpR op_isN (pv 1) pe_non (nomark _)) (pss_one (ps_ret (pe_cmpR op_isN (pv 0) pe_non (nomark _)))) pss_nil)
      (pss_cons (ps_if (pt_val (pe_callB call_isi (by rfl) T.z_isinstance (by decide +kernel) (pa_cons (pv 1) (pa_cons (pe_bltn (v := .ty "bool") (by rfl) T.z_bool (by decide +kernel) rfl) pa_nil)))) (pss_one (ps_ret (pe_and (pe_callB call_isi (by rfl) T.z_isinstance (by decide +kernel) (pa_cons (pv 0) (pa_cons (pe_bltn (v := .ty "bool") (by rfl) T.z_bool (by decide +kernel) rfl) pa_nil))) (pe_one (pe_cmpR op_eq (pv 0) (pv 1) (nomark _)))))) pss_nil)
      (pss_cons (ps_if (pt_val (pe_callB call_isi (by rfl) T.z_isinstance (by decide +kernel) (pa_cons (pv 1) (pa_cons (pe_bltn (v := .ty "int") (by rfl) T.z_int (by decide +kernel) rfl) pa_nil)))) (pss_one (ps_ret (pe_and (pe_callB call_isi (by rfl) T.z_isinstance (by decide +kernel) (pa_cons (pv 0) (pa_cons (pe_bltn (v := .ty "int") (by rfl) T.z_int (by decide +kernel) rfl) pa_nil))) (pe_and (pe_not (pe_callB call_isi (by rfl) T.z_isinstance (by decide +kernel) (pa_cons (pv 0) (pa_cons (pe_bltn (v := .ty "bool") (by rfl) T.z_bool (by decide +kernel) rfl) pa_nil)))) (pe_one (pe_cmpR op_eq (pv 0) (pv 1) (nomark _))))))) pss_nil)
      (pss_cons (ps_if (pt_val (pe_callB call_isi (by rfl) T.z_isinstance (by decide +kernel) (pa_cons (pv 1) (pa_cons (pe_bltn (v := .ty "str") (by rfl) T.z_str (by decide +kernel) rfl) pa_nil)))) (pss_one (ps_ret (pe_and (pe_callB call_isi (by rfl) T.z_isinstance (by decide +kernel) (pa_cons (pv 0) (pa_cons (pe_bltn (v := .ty "str") (by rfl) T.z_str (by decide +kernel) rfl) pa_nil))) (pe_one (pe_cmpR op_eq (pv 0) (pv 1) (nomark _)))))) pss_nil)
      (pss_cons (ps_if (pt_val (pe_callB call_isi (by rfl) T.z_isinstance (by decide +kernel) (pa_cons (pv 1) (pa_cons (pe_bltn (v := .ty "tuple") (by rfl) T.z_tuple (by decide +kernel) rfl) pa_nil)))) (pss_one (ps_if (pt_not (pt_val (pe_callB call_isi (by rfl) T.z_isinstance (by decide +kernel) (pa_cons (pv 0) (pa_cons (pe_bltn (v := .ty "tuple") (by rfl) T.z_tuple (by decide +kernel) rfl) pa_nil))))) (pss_one (ps_ret pe_bl)) pss_nil)) (pss_one (ps_if (PW.pt (pw_or (pt_not (pt_val (pe_callB call_isi (by rfl) T.z_isinstance (by decide +kernel) (pa_cons (pv 0) (pa_cons (pe_bltn (v := .ty "list") (by rfl) T.z_list (by decide +kernel) rfl) pa_nil))))) (pw_or1 (pt_not (pt_val (pe_callB call_isi (by rfl) T.z_isinstance (by decide +kernel) (pa_cons (pv 1) (pa_cons (pe_bltn (v := .ty "list") (by rfl) T.z_list (by decide +kernel) rfl) pa_nil)))))))) (pss_one (ps_ret pe_bl)) pss_nil)))
      (pss_cons (ps_if (pt_cmpR op_ne (pe_callB call_len (by rfl) T.z_len PySem.boot_len (pa_cons (pv 0) pa_nil)) (pe_callB call_len (by rfl) T.z_len PySem.boot_len (pa_cons (pv 1) pa_nil)) (nomark _)) (pss_one (ps_ret pe_bl)) pss_nil)
      (pss_cons (ps_for PassesOwn.never rfl (pi_range1 (by rfl) T.z_range (pa_cons (pe_callB call_len (by rfl) T.z_len PySem.boot_len (pa_cons (pv 1) pa_nil)) pa_nil)) (pg_name (i := 2) sc_same.nd rfl (.inl rfl)) (pss_one (ps_if (pt_not (pt_val (pe_call G (hr.mono (by first | decide | exact Nat.le_refl _)) (by rfl) T.g_same T.F_same.kp T.b_same .nil pass0 (pa_cons (pe_ix ix_seq (pv 0) (pv 2) (fun _ _ => rfl)) (pa_cons (pe_ix ix_seq (pv 1) (pv 2) (fun _ _ => rfl)) pa_nil))))) (pss_one (ps_ret pe_bl)) pss_nil)))
      (pss_one (ps_ret pe_bl))))))))), ?_⟩
    have sx := dx.shal
    have atom : plainV y = true → ∀ b : Bool, (b = true ↔ x = y) → Q (.bl b) H := fun pl b e => q b (e.trans (same_atom pl).symm)
    cases y with
    | non => exact ⟨_, rfl, rfl, _, rfl, iteC rfl ⟨_, rfl, rfl, atom rfl _ decide_eq_true_iff⟩⟩
    | bl b =>
      refine ⟨_, rfl, rfl, _, rfl, iteN rfl ⟨_, rfl, _, _, _, _, true, rfl, .ty _, .base (.bl b), kit_ty (by decide +kernel), _, rfl, iteT ?_⟩⟩
      obtain ⟨t, ht, kt⟩ := isi_bool (K := K) sx
      refine ⟨_, rfl, _, _, _, _, _, rfl, .ty _, ht, kt, _, rfl, ?_⟩
      cases e : isBl x with
      | false => exact iteF (atom rfl false ⟨fun h => (by cases h), fun h => by rw [h] at e; cases e⟩)
      | true =>
        have : scal x (.bl b) = true := by
          cases x <;> first | rfl | cases e
        exact iteT ⟨_, rfl, _, rfl, this, atom rfl _ decide_eq_true_iff⟩
    | int b =>
      refine ⟨_, rfl, rfl, _, rfl, iteN rfl ⟨_, rfl, _, _, _, _, false, rfl, .ty _, .base (.int b), kit_ty (by decide +kernel), _, rfl, iteF ?_⟩⟩
      refine ⟨_, rfl, _, _, _, _, true, rfl, .ty _, .base (.int b), kit_ty (by decide +kernel), _, rfl, iteT ?_⟩
      obtain ⟨t, ht, kt⟩ := isi_int (K := K) sx
      obtain ⟨t2, ht2, kt2⟩ := isi_bool (K := K) sx
      refine ⟨_, rfl, _, _, _, _, _, rfl, .ty _, ht, kt, _, rfl, ?_⟩
      cases e : (isInt x || isBl x) with
      | false => exact iteF (atom rfl false ⟨fun h => (by cases h), fun h => by rw [h] at e; cases e⟩)
      | true =>
        refine iteT ⟨_, rfl, _, _, _, _, _, rfl, .ty _, ht2, kt2, _, rfl, _, rfl, ?_⟩
        cases e2 : isBl x with
        | true => exact iteF (atom rfl false ⟨fun h => (by cases h), fun h => by rw [h] at e2; cases e2⟩)
        | false =>
          have : scal x (.int b) = true := by
            cases x <;> first | rfl | (cases e2; done) | (cases e; done)
          exact iteT ⟨_, rfl, _, rfl, this, atom rfl _ decide_eq_true_iff⟩
    | str b =>
      refine ⟨_, rfl, rfl, _, rfl, iteN rfl ⟨_, rfl, _, _, _, _, false, rfl, .ty _, .base (.str b), kit_ty (by decide +kernel), _, rfl, iteF ?_⟩⟩
      refine ⟨_, rfl, _, _, _, _, false, rfl, .ty _, .base (.str b), kit_ty (by decide +kernel), _, rfl, iteF ?_⟩
      refine ⟨_, rfl, _, _, _, _, true, rfl, .ty _, .base (.str b), kit_ty (by decide +kernel), _, rfl, iteT ?_⟩
      obtain ⟨t, ht, kt⟩ := isi_str (K := K) sx
      refine ⟨_, rfl, _, _, _, _, _, rfl, .ty _, ht, kt, _, rfl, ?_⟩
      cases e : isStr x with
      | false => exact iteF (atom rfl false ⟨fun h => (by cases h), fun h => by rw [h] at e; cases e⟩)
      | true =>
        have : scal x (.str b) = true := by
          cases x <;> first | rfl | cases e
        exact iteT ⟨_, rfl, _, rfl, this, atom rfl _ decide_eq_true_iff⟩
    | byt b => rcases dy with ⟨pl, _⟩ | ⟨r, ys, e, _⟩ <;> first | cases pl | cases e
    | flt b => rcases dy with ⟨pl, _⟩ | ⟨r, ys, e, _⟩ <;> first | cases pl | cases e
    | ty b => rcases dy with ⟨pl, _⟩ | ⟨r, ys, e, _⟩ <;> first | cases pl | cases e
    | ref r =>
      rcases dy with ⟨pl, _⟩ | ⟨r', ys, e, o, ly, hy⟩
      · cases pl
      cases e
      refine ⟨_, rfl, rfl, _, rfl, iteN rfl ?_⟩
      rcases o with o2 | o2
      · refine ⟨_, rfl, _, _, _, _, false, rfl, .ty _, .base (.lst o2), kit_ty (by decide +kernel), _, rfl, iteF ?_⟩
        refine ⟨_, rfl, _, _, _, _, false, rfl, .ty _, .base (.lst o2), kit_ty (by decide +kernel), _, rfl, iteF ?_⟩
        refine ⟨_, rfl, _, _, _, _, false, rfl, .ty _, .base (.lst o2), kit_ty (by decide +kernel), _, rfl, iteF ?_⟩
        refine ⟨_, rfl, _, _, _, _, false, rfl, .ty _, .base (.lst o2), kit_ty (by decide +kernel), _, rfl, iteF ?_⟩
        obtain ⟨t, b, ht, kt, hb⟩ := isi_lst (K := K) sx
        refine ⟨_, rfl, _, _, _, _, _, rfl, .ty _, ht, kt, _, rfl, ?_⟩
        cases b with
        | false =>
          refine iteC rfl (iteC rfl (q false ⟨fun h => (by cases h), fun h => ?_⟩))
          rcases h with ⟨e, pl⟩ | ⟨p', q', xs', ys', e1, e2, h, _⟩
          · cases pl
          · cases e2
            have z : false = true := (h.elim (fun z => (by rw [z.2] at o2; cases o2)) fun z => hb.mpr ⟨p', xs', e1, z.1⟩)
            cases z
        | true =>
        obtain ⟨p, xs, rfl, o1⟩ := hb.mp rfl
        refine iteN rfl ⟨_, rfl, _, _, _, _, true, rfl, .ty _, .base (.lst o2), kit_ty (by decide +kernel), _, rfl, iteN rfl ?_⟩
        have hx : xs.length ≤ 1000000 ∧ ∀ x ∈ xs, dp H x := by
          rcases dx with ⟨pl, _⟩ | ⟨p', xs', e, o, l, h⟩
          · cases pl
          · cases e
            have := same_row o (.inl o1)
            subst this
            exact ⟨l, h⟩
        refine ⟨_, rfl, _, _, rfl, .inl ⟨_, .inl (.inl o1), rfl⟩, _, rfl, _, _, rfl, .inl ⟨_, .inl (.inl o2), rfl⟩, rfl, _, rfl, ?_⟩
        have rows : ∀ h : SameR rel H (.ref p) (.ref r), xs.length = ys.length ∧ ∀ (i : Nat) (x' y' : V), xs[i]? = some x' → ys[i]? = some y' → rel H x' y' := fun h => by
          rcases h with ⟨_, pl⟩ | ⟨p', q', xs', ys', e1, e2, h, l, _, rr⟩
          · cases pl
          · cases e1
            cases e2
            have g1 := same_row (h.elim (fun z => .inr z.1) fun z => .inl z.1) (.inl o1)
            have g2 := same_row (h.elim (fun z => .inr z.2) fun z => .inl z.2) (.inl o2)
            subst g1
            subst g2
            exact ⟨l, rr⟩
        by_cases hl : xs.length = ys.length
        · refine iteN (by rw [hl]; simp) ?_
          refine ⟨_, rfl, _, _, rfl, .inl ⟨_, .inl (.inl o2), rfl⟩, (ys.length : Int), rfl, by omega, by omega, ?_⟩
          refine for_range (lo := 0) (n := (ys.length : Int).toNat) (fun i σ H' => ∃ z : Option V, σ = [some (.ref p), some (.ref r), z] ∧ H' = H ∧ ∀ k : Nat, k < i → ∀ x' y' : V, xs[k]? = some x' → ys[k]? = some y' → rel H x' y') ⟨none, rfl, rfl, fun k h => by omega⟩ ?_ ?_
          · rintro i σ H' hn ⟨z, rfl, rfl, done⟩
            have hn' : i < ys.length := hn
            have hx' : xs[i]? = some xs[i] := List.getElem?_eq_getElem (by omega)
            have hy' : ys[i]? = some ys[i] := List.getElem?_eq_getElem hn'
            refine ⟨_, rfl, _, rfl, .inl ⟨_, _, _, _, rfl, rfl, .inl (.inl o1), (by rw [Int.zero_add]; exact atI_nat hx'), _, rfl, _, rfl, .inl ⟨_, _, _, _, rfl, rfl, .inl (.inl o2), (by rw [Int.zero_add]; exact atI_nat hy'), _, _, rfl, hx.2 _ (List.getElem_mem _), hy _ (List.getElem_mem _), fun b hb => ⟨_, rfl, ?_⟩⟩⟩⟩
            cases b with
            | false =>
              refine iteC rfl (q false ⟨fun h => (by cases h), fun h => ?_⟩)
              cases hb.mpr ((rows h).2 i _ _ hx' hy')
            | true =>
              refine iteN rfl ⟨_, rfl, rfl, fun k hk x' y' ex ey => ?_⟩
              by_cases g : k < i
              · exact done k g x' y' ex ey
              · have g : k = i := by omega
                subst g
                rw [hx'] at ex
                rw [hy'] at ey
                cases ex
                cases ey
                exact hb.mp rfl
          · rintro σ H' ⟨z, rfl, rfl, done⟩
            refine q true ⟨fun _ => .inr ⟨p, r, xs, ys, rfl, rfl, .inr ⟨o1, o2⟩, hl, ly, fun i x' y' ex ey => done i ?_ x' y' ex ey⟩, fun _ => rfl⟩
            have := (List.getElem?_eq_some_iff.mp ey).1
            show i < (ys.length : Int).toNat
            omega
        · refine iteC (by rw [decide_eq_false (fun e => hl (by have := V.int.inj e; omega))]; rfl) (q false ⟨fun h => (by cases h), fun h => (hl (rows h).1).elim⟩)
      · refine ⟨_, rfl, _, _, _, _, false, rfl, .ty _, .base (.tup o2), kit_ty (by decide +kernel), _, rfl, iteF ?_⟩
        refine ⟨_, rfl, _, _, _, _, false, rfl, .ty _, .base (.tup o2), kit_ty (by decide +kernel), _, rfl, iteF ?_⟩
        refine ⟨_, rfl, _, _, _, _, false, rfl, .ty _, .base (.tup o2), kit_ty (by decide +kernel), _, rfl, iteF ?_⟩
        refine ⟨_, rfl, _, _, _, _, true, rfl, .ty _, .base (.tup o2), kit_ty (by decide +kernel), _, rfl, iteT ?_⟩
        obtain ⟨t, b, ht, kt, hb⟩ := isi_tup (K := K) sx
        refine ⟨_, rfl, _, _, _, _, _, rfl, .ty _, ht, kt, _, rfl, ?_⟩
        cases b with
        | false =>
          refine iteC rfl (q false ⟨fun h => (by cases h), fun h => ?_⟩)
          rcases h with ⟨e, pl⟩ | ⟨p', q', xs', ys', e1, e2, h, _⟩
          · cases pl
          · cases e2
            have z : false = true := (h.elim (fun z => hb.mpr ⟨p', xs', e1, z.1⟩) fun z => (by rw [z.2] at o2; cases o2))
            cases z
        | true =>
        obtain ⟨p, xs, rfl, o1⟩ := hb.mp rfl
        refine iteF ?_
        have hx : xs.length ≤ 1000000 ∧ ∀ x ∈ xs, dp H x := by
          rcases dx with ⟨pl, _⟩ | ⟨p', xs', e, o, l, h⟩
          · cases pl
          · cases e
            have := same_row o (.inr o1)
            subst this
            exact ⟨l, h⟩
        refine ⟨_, rfl, _, _, rfl, .inr ⟨_, .inl (.inl o1), rfl⟩, _, rfl, _, _, rfl, .inr ⟨_, .inl (.inl o2), rfl⟩, rfl, _, rfl, ?_⟩
        have rows : ∀ h : SameR rel H (.ref p) (.ref r), xs.length = ys.length ∧ ∀ (i : Nat) (x' y' : V), xs[i]? = some x' → ys[i]? = some y' → rel H x' y' := fun h => by
          rcases h with ⟨_, pl⟩ | ⟨p', q', xs', ys', e1, e2, h, l, _, rr⟩
          · cases pl
          · cases e1
            cases e2
            have g1 := same_row (h.elim (fun z => .inr z.1) fun z => .inl z.1) (.inr o1)
            have g2 := same_row (h.elim (fun z => .inr z.2) fun z => .inl z.2) (.inr o2)
            subst g1
            subst g2
            exact ⟨l, rr⟩
        by_cases hl : xs.length = ys.length
        · refine iteN (by rw [hl]; simp) ?_
          refine ⟨_, rfl, _, _, rfl, .inr ⟨_, .inl (.inl o2), rfl⟩, (ys.length : Int), rfl, by omega, by omega, ?_⟩
          refine for_range (lo := 0) (n := (ys.length : Int).toNat) (fun i σ H' => ∃ z : Option V, σ = [some (.ref p), some (.ref r), z] ∧ H' = H ∧ ∀ k : Nat, k < i → ∀ x' y' : V, xs[k]? = some x' → ys[k]? = some y' → rel H x' y') ⟨none, rfl, rfl, fun k h => by omega⟩ ?_ ?_
          · rintro i σ H' hn ⟨z, rfl, rfl, done⟩
            have hn' : i < ys.length := hn
            have hx' : xs[i]? = some xs[i] := List.getElem?_eq_getElem (by omega)
            have hy' : ys[i]? = some ys[i] := List.getElem?_eq_getElem hn'
            refine ⟨_, rfl, _, rfl, .inr (.inl ⟨_, _, _, _, rfl, rfl, .inl (.inl o1), (by rw [Int.zero_add]; exact atI_nat hx'), _, rfl, _, rfl, .inr (.inl ⟨_, _, _, _, rfl, rfl, .inl (.inl o2), (by rw [Int.zero_add]; exact atI_nat hy'), _, _, rfl, hx.2 _ (List.getElem_mem _), hy _ (List.getElem_mem _), fun b hb => ⟨_, rfl, ?_⟩⟩)⟩)⟩
            cases b with
            | false =>
              refine iteC rfl (q false ⟨fun h => (by cases h), fun h => ?_⟩)
              cases hb.mpr ((rows h).2 i _ _ hx' hy')
            | true =>
              refine iteN rfl ⟨_, rfl, rfl, fun k hk x' y' ex ey => ?_⟩
              by_cases g : k < i
              · exact done k g x' y' ex ey
              · have g : k = i := by omega
                subst g
                rw [hx'] at ex
                rw [hy'] at ey
                cases ex
                cases ey
                exact hb.mp rfl
          · rintro σ H' ⟨z, rfl, rfl, done⟩
            refine q true ⟨fun _ => .inr ⟨p, r, xs, ys, rfl, rfl, .inl ⟨o1, o2⟩, hl, ly, fun i x' y' ex ey => done i ?_ x' y' ex ey⟩, fun _ => rfl⟩
            have := (List.getElem?_eq_some_iff.mp ey).1
            show i < (ys.length : Int).toNat
            omega
        · refine iteC (by rw [decide_eq_false (fun e => hl (by have := V.int.inj e; omega))]; rfl) (q false ⟨fun h => (by cases h), fun h => (hl (rows h).1).elim⟩)
theorem fnOk_noSame {f : Addr} {fd : FuncData} {ps : List Str} {k : Nat} : FnOk P w K mg base CX0 k f fd ps (sp_sameB (fun _ _ _ => False) fun _ _ => False) :=
  ⟨fun vs H Q E h => by obtain ⟨_, _, _, h, _⟩ := h; exact h.elim, fun A outer s H args us vs Q E _ _ _ _ h => by obtain ⟨_, _, _, h, _⟩ := h; exact h.elim⟩
theorem ok_sameBN (T : Txt K mg base) : ∀ n : Nat, FnOk P w K mg base CX0 (n + 1) T.f_same T.fd_same ["actual", "expected"] (sp_sameB (SameD n) (DeepN n))
  | 0 => sameB_step T fnOk_noSame
  | n + 1 => sameB_step T (ok_sameBN T n)
theorem ok_sameB (T : Txt K mg base) : FnOk P w K mg base CX0 10 T.f_same T.fd_same ["actual", "expected"] (sp_sameB (SameD 9) (DeepN 9)) := ok_sameBN T 9

theorem sing_list {l : List Str} {a : List Nat} (nd : l.Nodup) (m : ∀ k, k ∈ l ↔ ∃ c ∈ a, k = PySem.Froz.sing c) : ∃ ns : List Nat, l = ns.map PySem.Froz.sing ∧ ns.Nodup ∧ ∀ c, c ∈ ns ↔ c ∈ a := by
  have e : l = (l.map fun k => (cs k).headD 0).map PySem.Froz.sing := by
    rw [List.map_map]
    refine (List.map_id'' (fun _ => rfl) l).symm.trans (List.map_congr_left fun k hk => ?_)
    obtain ⟨c, _, rfl⟩ := (m k).mp hk
    rfl
  refine ⟨_, e, ?_, fun c => ?_⟩
  · rw [e] at nd
    exact (List.Pairwise.of_map PySem.Froz.sing (fun a b hne q => hne (congrArg _ q)) nd)
  · constructor
    · intro h
      obtain ⟨k, hk, e2⟩ := List.mem_map.mp h
      obtain ⟨d, hd, rfl⟩ := (m k).mp hk
      have : d = c := e2
      rw [← this]
      exact hd
    · intro h
      exact List.mem_map.mpr ⟨PySem.Froz.sing c, (m _).mpr ⟨c, h, rfl⟩, rfl⟩
def sp_is_letters (_ : PySem.W.Frag) : Sp := fun vs H Q _ => ∃ v : V, vs = [v] ∧ Shal H v ∧ Good H ∧ ∀ (b : Bool) (H' : Hp), (b = true ↔ ∃ x, v = .str x ∧ IsAlpha x) → Same H H' → Q (.bl b) H'
theorem ok_is_letters (T : Txt K mg base) : FnOk P w K mg base CX0 (0 + 1) T.f_is_letters T.fd_is_letters ["value"] (sp_is_letters K) := by
  refine T.F_is_letters.ok sc_is_letters (fun vs H Q E h => ?_) (fun A outer s H vs Q E hr h => ?_)
  · obtain ⟨x, rfl, _⟩ := h
    rfl
  · obtain ⟨v, rfl, sv, good, q⟩ := h
    refine ⟨_, (pss_cons (ps_if (PW.pt (pw_or (pt_not (pt_val (pe_callB call_isi (by rfl) T.z_isinstance (by decide +kernel) (pa_cons (pv 0) (pa_cons (pe_bltn (v := .ty "str") (by rfl) T.z_str (by decide +kernel) rfl) pa_nil))))) (pw_or1 (pt_not (pt_chain op_le op_le pe_int (pe_callB call_len_str (by rfl) T.z_len PySem.boot_len (pa_cons (pv 0) pa_nil)) (pe_glob (v := .int 4) (by rfl) T.c_MAX_LETTERS ⟨_, rfl⟩)))))) (pss_one (ps_ret pe_bl)) pss_nil)
      (pss_cons (ps_if (pt_not (pt_val (GQ.pe_allG hr T.z_all T.c_SMALL_LETTERS T.B_is_letters T.m_is_letters rfl (GQ.genB_by (sc := defScope s_is_letters) (by decide +kernel)) (pv 0)))) (pss_one (ps_ret pe_bl)) pss_nil)
      (pss_one (ps_ret (pe_cmpR (op_eqD hr.units) (pe_callTy (cr_listT rfl) (by rfl) T.z_list (by decide +kernel) (pa_cons (pv 0) pa_nil)) (pe_callB (SetQ.cr_sortedTx rfl) (by rfl) T.z_sorted (by decide +kernel) (pa_cons (pe_callTy (SetQ.cr_setT2 rfl) (by rfl) T.z_set (by decide +kernel) (pa_cons (pv 0) pa_nil)) pa_nil)) (nomark _)))))), ?_⟩
    obtain ⟨ty, hty, kt⟩ := isi_str (K := K) sv
    refine ⟨_, rfl, _, _, _, _, _, rfl, .ty _, hty, kt, _, rfl, ?_⟩
    cases hs : isStr v with
    | false =>
      refine iteC rfl ?_
      refine iteC rfl ?_
      refine q false _ ⟨fun h => (by cases h), fun h => ?_⟩ (.refl H)
      obtain ⟨x, rfl, _⟩ := h
      cases hs
    | true =>
    obtain ⟨x, rfl⟩ := isStr_of hs
    have sx := sv.text
    replace q : ∀ (b : Bool) (H' : Hp), (b = true ↔ IsAlpha x) → Same H H' → Q (.bl b) H' := fun b H' h s => q b H' (h.trans ⟨fun a => ⟨x, rfl, a⟩, fun ⟨y, e, a⟩ => by cases e; exact a⟩) s
    refine iteF ?_
    refine ⟨_, rfl, x, rfl, small_text sx, _, _, rfl, rfl, _, rfl, ite2 (fun g1 => ?_) (fun g1 => ?_)⟩
    · refine ⟨_, _, rfl, rfl, _, rfl, ?_⟩
      have g1 : 1 ≤ x.length := by
        have := of_decide_eq_true g1
        omega
      by_cases g2 : x.length ≤ 4
      · refine iteN (by rw [decide_eq_true (by omega)]; rfl) ?_
        refine ⟨_, rfl, x, rfl, good, fun H1 s1 => ?_⟩
        by_cases g3 : (x.cps.toList.all fun c => decide (c ∈ (Str.ofString "abcdefghijklmnopqrstuvwxyz").cps.toList)) = true
        · refine ⟨_, rfl, iteN (by rw [g3]; rfl) ?_⟩
          have low : ∀ c ∈ cs x, 97 ≤ c ∧ c ≤ 122 := fun c hc => abc_low c (of_decide_eq_true (List.all_eq_true.mp g3 c hc))
          refine ⟨_, rfl, x, rfl, small_text sx, fun p1 n1 => ?_⟩
          have asc : x.cps.all (· < 128) = true := by
            rw [← Array.all_toList]
            refine List.all_eq_true.mpr fun c hc => decide_eq_true ?_
            have := low c hc
            omega
          have ln : x.cps.toList.length = x.length := cs_len x
          refine ⟨_, rfl, x, rfl, asc, by rw [ln]; omega, fun p2 l n2 nd mem le => ?_⟩
          obtain ⟨ns, rfl, nn, mm⟩ := sing_list nd mem
          refine ⟨p2, _, rfl, upd_same, nd, ?_, fun ws p3 srt perm n3 => ?_⟩
          · rw [ln] at le
            omega
          · obtain ⟨ds, ew, pm, le⟩ := SetQ.sorted_sing srt perm
            have e3 : ws.map V.str = ds.map signV := by
              rw [ew, List.map_map]
              rfl
            have m3 : ∀ d ∈ ds, d < 128 := fun d hd => by
              have := low d ((mm d).mp (pm.mem_iff.mp hd))
              omega
            refine ⟨_, _, dp_signs (SqL.of (same_new n3 _ _ (same_new n2 _ _ upd_same))), dp_signs (SqL.of (by rw [upd_same, e3])), shaped_signs fun c hc => ?_, shaped_signs m3, q _ _ ?_ (((s1.trans (same_new n1)).trans (same_new n2)).trans (same_new n3))⟩
            · have := low c hc
              omega
            · show PyData.eqvAll _ _ = true ↔ _
              rw [eqv_signs, decide_eq_true_iff]
              constructor
              · intro e
                have e' : cs x = ds := e
                have asc : (cs x).Pairwise (· < ·) := by
                  rw [e']
                  exact (List.Pairwise.and le (pm.nodup_iff.mpr nn)).imp fun h => Nat.lt_of_le_of_ne h.1 h.2
                exact ⟨asc, low, g1, g2⟩
              · intro h
                have nx : (cs x).Nodup := h.asc.imp fun h => Nat.ne_of_lt h
                exact SetQ.le_unique ((List.perm_ext_iff_of_nodup nx (pm.nodup_iff.mpr nn)).mpr fun c => ((mm c).symm.trans pm.mem_iff.symm)) (h.asc.imp fun h => Nat.le_of_lt h) le
        · refine ⟨_, rfl, iteC (by rw [Bool.eq_false_iff.mpr g3]; rfl) ?_⟩
          refine q false _ ⟨fun h => (by cases h), fun h => absurd (List.all_eq_true.mpr fun c hc => decide_eq_true ?_) g3⟩ s1
          have := h.low c hc
          show c ∈ cs abc
          rw [cs_abc, List.mem_range'_1]
          omega
      · refine iteC (by rw [decide_eq_false (by omega)]; rfl) ?_
        exact q false _ ⟨fun h => (by cases h), fun h => absurd h.len4 g2⟩ (.refl H)
    · refine ⟨_, rfl, iteC rfl ?_⟩
      refine q false _ ⟨fun h => (by cases h), fun h => absurd (decide_eq_true ?_) g1⟩ (.refl H)
      have := h.len1
      omega

def sp_check_letters [Tabl] (C : Addr) (_ : PySem.W.Frag) : Sp := fun vs H Q E => ∃ v : V, vs = [v] ∧ Shal H v ∧ Good H ∧ (AlphaV v → ∀ H' : Hp, Same H H' → Q v H') ∧ (¬ AlphaV v → Raised H C v E)
theorem ok_check_letters (T : Txt K mg base) : FnOk P w K mg base (L2.CX P w) (3 + 1) T.f_check_letters T.fd_check_letters ["letters"] (sp_check_letters T.C_BadLetters K) := by
  refine T.F_check_letters.okX sc_check_letters (fun vs H Q E h => ?_) (fun cdv A outer s H vs Q E hr h => ?_)
  · obtain ⟨z, rfl, _⟩ := h
    rfl
  · obtain ⟨v, rfl, sv, good, q, qe⟩ := h
    refine ⟨_, (pss_cons (ps_if (pt_not (pt_val (pe_call (ok_is_letters T) (hr.mono (by first | decide | exact Nat.le_refl _)) (by rfl) T.g_is_letters T.F_is_letters.kp T.b_is_letters .nil pass0 (pa_cons (pv 0) pa_nil)))) (pss_one (ps_raise rfl (takes_of rfl rfl rfl rfl) (pmk_err1 T.E_BadLetters T.iI_BadLetters T.tI_BadLetters T.no_BadLetters_value (ok_init1 (k := 0) (p4 := ⟨0, 0, 0, 0⟩) T.FI_BadLetters sci_BadLetters (by decide) rfl) (hr.mono (by first | decide | exact Nat.le_refl _)) T.bI_BadLetters pass0 (pa_cons (pv 0) pa_nil)))) pss_nil)
      (pss_one (ps_ret (pv 0)))), ?_⟩
    refine ⟨_, rfl, v, rfl, sv, good, fun b H1 hb s1 => ⟨_, rfl, ?_⟩⟩
    cases b with
    | true => exact iteF ⟨_, rfl, q (hb.mp rfl) H1 s1⟩
    | false => exact iteC rfl ⟨_, rfl, _, rfl, fun d nd => qe (fun h => by cases hb.mpr h) d H1 _ s1 nd rfl⟩

def sp_is_whole (_ : PySem.W.Frag) : Sp := fun vs H Q _ => ∃ v : V, vs = [v] ∧ Shal H v ∧ Q (.bl (isInt v)) H
theorem ok_is_whole (T : Txt K mg base) : FnOk P w K mg base CX0 (0 + 1) T.f_is_whole T.fd_is_whole ["value"] (sp_is_whole K) := by
  refine T.F_is_whole.ok sc_is_whole (fun vs H Q E h => ?_) (fun cdv A outer s H vs Q E hr h => ?_)
  · obtain ⟨i, rfl, _⟩ := h
    rfl
  · obtain ⟨v, rfl, sv, q⟩ := h
    refine ⟨_, (pss_one (ps_ret (pe_and (pe_callB call_isi (by rfl) T.z_isinstance (by decide +kernel) (pa_cons (pv 0) (pa_cons (pe_bltn (v := .ty "int") (by rfl) T.z_int (by decide +kernel) rfl) pa_nil))) (pe_one (pe_not (pe_callB call_isi (by rfl) T.z_isinstance (by decide +kernel) (pa_cons (pv 0) (pa_cons (pe_bltn (v := .ty "bool") (by rfl) T.z_bool (by decide +kernel) rfl) pa_nil)))))))), ?_⟩
    obtain ⟨t1, h1, k1⟩ := isi_int (K := K) sv
    obtain ⟨t2, h2, k2⟩ := isi_bool (K := K) sv
    refine ⟨_, rfl, _, _, _, _, _, rfl, .ty _, h1, k1, _, rfl, ?_⟩
    cases e : (isInt v || isBl v) with
    | false =>
      refine iteF ?_
      have : isInt v = false := by
        cases hv : isInt v <;> rw [hv] at e <;> first | rfl | cases e
      rw [this] at q
      exact q
    | true =>
      refine iteT ⟨_, rfl, _, _, _, _, _, rfl, .ty _, h2, k2, _, rfl, ?_⟩
      have : (!isBl v) = isInt v := by
        cases v <;> first | rfl | cases e
      rw [this]
      exact q

def sp_in_range (_ : PySem.W.Frag) : Sp := fun vs H Q _ => ∃ (v : V) (lo hi : Int), vs = [v, .int lo, .int hi] ∧ Shal H v ∧ Q (.bl (inR v lo hi)) H
theorem ok_in_range (T : Txt K mg base) : FnOk P w K mg base CX0 (1 + 1) T.f_in_range T.fd_in_range ["value", "low", "high"] (sp_in_range K) := by
  refine T.F_in_range.ok sc_in_range (fun vs H Q E h => ?_) (fun cdv A outer s H vs Q E hr h => ?_)
  · obtain ⟨v, lo, hi, rfl, _⟩ := h
    rfl
  · obtain ⟨v, lo, hi, rfl, sv, q⟩ := h
    refine ⟨_, (pss_one (ps_ret (pe_and (pe_call (ok_is_whole T) (hr.mono (by first | decide | exact Nat.le_refl _)) (by rfl) T.g_is_whole T.F_is_whole.kp T.b_is_whole .nil pass0 (pa_cons (pv 0) pa_nil)) (pe_one (pe_chain op_le op_le (pv 1) (pv 0) (pv 2)))))), ?_⟩
    refine ⟨_, rfl, v, rfl, sv, _, rfl, ?_⟩
    cases hv : isInt v with
    | false =>
      refine iteF ?_
      have : inR v lo hi = false := by
        cases v <;> first | rfl | cases hv
      rw [this] at q
      exact q
    | true =>
      obtain ⟨i, rfl⟩ := isInt_of hv
      refine iteT ?_
      refine ⟨_, rfl, _, rfl, _, _, rfl, rfl, _, rfl, ?_⟩
      by_cases h : lo ≤ i
      · rw [decide_eq_true h]
        refine iteT ⟨_, rfl, _, _, rfl, rfl, ?_⟩
        have : inR (.int i) lo hi = decide (i ≤ hi) := by
          show (decide (lo ≤ i) && decide (i ≤ hi)) = _
          rw [decide_eq_true h, Bool.true_and]
        rw [this] at q
        exact q
      · rw [decide_eq_false h]
        refine iteF ?_
        have : inR (.int i) lo hi = false := by
          show (decide (lo ≤ i) && decide (i ≤ hi)) = _
          rw [decide_eq_false h, Bool.false_and]
        rw [this] at q
        exact q

def sp_check_number [Tabl] (C : Addr) (_ : PySem.W.Frag) : Sp := fun vs H Q E => ∃ (v : V) (lo hi : Int), vs = [v, .int lo, .int hi] ∧ Shal H v ∧ (inR v lo hi = true → Q v H) ∧ (inR v lo hi = false → Raised H C v E)
theorem ok_check_number (T : Txt K mg base) : FnOk P w K mg base (L2.CX P w) (4 + 1) T.f_check_number T.fd_check_number ["value", "low", "high"] (sp_check_number T.C_BadNumber K) := by
  refine T.F_check_number.okX sc_check_number (fun vs H Q E h => ?_) (fun cdv A outer s H vs Q E hr h => ?_)
  · obtain ⟨v, lo, hi, rfl, _⟩ := h
    rfl
  · obtain ⟨v, lo, hi, rfl, sv, q, qe⟩ := h
    refine ⟨_, (pss_cons (ps_if (pt_not (pt_val (pe_call (ok_in_range T) (hr.mono (by first | decide | exact Nat.le_refl _)) (by rfl) T.g_in_range T.F_in_range.kp T.b_in_range .nil pass0 (pa_cons (pv 0) (pa_cons (pv 1) (pa_cons (pv 2) pa_nil)))))) (pss_one (ps_raise rfl (takes_of rfl rfl rfl rfl) (pmk_err1 T.E_BadNumber T.iI_BadNumber T.tI_BadNumber T.no_BadNumber_value (ok_init1 (k := 0) (p4 := ⟨0, 0, 0, 0⟩) T.FI_BadNumber sci_BadNumber (by decide) rfl) (hr.mono (by first | decide | exact Nat.le_refl _)) T.bI_BadNumber pass0 (pa_cons (pv 0) pa_nil)))) pss_nil)
      (pss_one (ps_ret (pv 0)))), ?_⟩
    refine ⟨_, rfl, _, rfl, _, rfl, v, lo, hi, rfl, sv, _, rfl, ?_⟩
    cases e : inR v lo hi with
    | true => exact iteF ⟨_, rfl, q e⟩
    | false => exact iteC rfl ⟨_, rfl, _, rfl, fun d nd => qe e d H _ (.refl H) nd rfl⟩

/-- the words of k signs, and those of at most k -/
def levW (z : List Nat) : Nat → List (List Nat)
  | 0 => [[]]
  | k + 1 => (levW z k).flatMap fun w => z.map fun c => w ++ [c]
def allW (z : List Nat) : Nat → List (List Nat)
  | 0 => [[]]
  | k + 1 => allW z k ++ levW z (k + 1)
theorem levW_len (z : List Nat) : ∀ k, (levW z k).length = z.length ^ k
  | 0 => rfl
  | k + 1 => by
    have ih := levW_len z k
    show ((levW z k).flatMap fun w => z.map fun c => w ++ [c]).length = _
    rw [List.length_flatMap]
    have : (levW z k).map (fun w => (z.map fun c => w ++ [c]).length) = List.replicate (levW z k).length z.length := by
      rw [← List.map_const']
      exact List.map_congr_left fun w _ => List.length_map ..
    rw [this, List.sum_replicate_nat, ih, Nat.pow_succ]
theorem levW_word (z : List Nat) : ∀ (k : Nat) (w : List Nat), w ∈ levW z k → w.length = k
  | 0, w, h => by
    rw [List.mem_singleton.mp h]
    rfl
  | k + 1, w, h => by
    obtain ⟨u, hu, hw⟩ := List.mem_flatMap.mp h
    obtain ⟨c, _, rfl⟩ := List.mem_map.mp hw
    rw [List.length_append, levW_word z k u hu]
    rfl
theorem levW_small {z : List Nat} (l4 : z.length ≤ 4) {k : Nat} (k6 : k ≤ 6) : (levW z k).length ≤ 4096 := by
  rw [levW_len]
  exact Nat.le_trans (Nat.pow_le_pow_left l4 k) (Nat.le_trans (Nat.pow_le_pow_right (by decide) k6) (by decide))
theorem allW_small {z : List Nat} (l4 : z.length ≤ 4) : ∀ {k : Nat}, k ≤ 6 → (allW z k).length ≤ 4096 * (k + 1)
  | 0, _ => by
    show 1 ≤ _
    decide
  | k + 1, k6 => by
    have a := allW_small l4 (k := k) (by omega)
    have b := levW_small l4 k6
    show (allW z k ++ levW z (k + 1)).length ≤ _
    rw [List.length_append]
    omega
theorem allW_word (z : List Nat) : ∀ (k : Nat) (w : List Nat), w ∈ allW z k → w.length ≤ k
  | 0, w, h => by
    rw [List.mem_singleton.mp h]
    exact Nat.zero_le _
  | k + 1, w, h => by
    rcases List.mem_append.mp h with h | h
    · exact Nat.le_succ_of_le (allW_word z k w h)
    · exact Nat.le_of_eq (levW_word z (k + 1) w h)
def strV (w : List Nat) : V := .str ⟨w.toArray⟩
def sp_all_words [Tabl] (C D : Addr) (_ : PySem.W.Frag) : Sp := fun vs H Q E => ∃ L v : V, vs = [L, v] ∧ Shal H L ∧ Shal H v ∧ Good H ∧ (¬ AlphaV L → Raised H C L E) ∧ (AlphaV L → inR v 0 6 = false → Raised H D v E) ∧
  ∀ (z : Str) (n : Nat), L = .str z → IsAlpha z → v = .int (n : Int) → n ≤ 6 → ∀ (p : Addr) (H' : Hp), Same H H' → H p = none → H' p = some (.lst ((allW (cs z) n).map strV)) → Q (.ref p) H'
theorem ok_all_words (T : Txt K mg base) : FnOk P w K mg base (L2.CX P w) (5 + 1) T.f_all_words T.fd_all_words ["letters", "most"] (sp_all_words T.C_BadLetters T.C_BadNumber K) := by
  refine T.F_all_words.okX sc_all_words (fun vs H Q E h => ?_) (fun cdv A outer s H vs Q E hr h => ?_)
  · obtain ⟨L, v, rfl, _⟩ := h
    rfl
  · obtain ⟨L, v, rfl, sL, sv, good, qa, qn, q⟩ := h
    refine ⟨_, (pss_cons (ps_expr (pe_callS (ok_check_letters T) (hr.mono (by first | decide | exact Nat.le_refl _)) (by rfl) T.g_check_letters T.F_check_letters.kp T.b_check_letters (fun σ => passAt (takes_of rfl rfl rfl rfl) σ) (pa_cons (pv 0) pa_nil)))
      (pss_cons (ps_expr (pe_callS (ok_check_number T) (hr.mono (by first | decide | exact Nat.le_refl _)) (by rfl) T.g_check_number T.F_check_number.kp T.b_check_number (fun σ => passAt (takes_of rfl rfl rfl rfl) σ) (pa_cons (pv 1) (pa_cons pe_int (pa_cons (pe_glob (v := .int 6) (by rfl) T.c_MAX_ALL_WORDS ⟨_, rfl⟩) pa_nil)))))
      (pss_cons (ps_set (i := 2) sc_all_words.nd rfl (.inl rfl) (pe_lst (pa_cons pe_str pa_nil)))
      (pss_cons (ps_set (i := 3) sc_all_words.nd rfl (.inl rfl) (pe_lst (pa_cons pe_str pa_nil)))
      (pss_cons (ps_for (passes_of rfl) rfl (pi_range1 (by rfl) T.z_range (pa_cons (pv 1) pa_nil)) (pg_name (i := 4) sc_all_words.nd rfl (.inl rfl)) (pss_cons (ps_setLc2 (i := 3) (own := [("word", 5), ("letter", 6)]) (vs1 := [6]) (g := gName 5) (g1 := gName 6) rfl sc_all_words.nd rfl rfl (sw_true rfl rfl rfl (by decide +kernel)) (pi_list (pv 3)) (blkOk_by (N := ["letters", "most", "words", "longest", "_", "word", "letter"]) (sc := defScope s_all_words) (by decide +kernel)) (by decide) (fun _ _ _ _ _ => pg_name (i := 5) sc_all_words.nd rfl (Or.inl rfl)) (fun _ _ _ _ _ => pts_nil) (fun _ _ _ _ _ => (pi_str (pv 0))) (fun _ _ _ _ _ => pg_name (i := 6) sc_all_words.nd rfl (Or.inl rfl)) (fun _ _ _ _ _ => pts_nil) (fun _ _ _ _ _ => (pe_op op_add_str (pv 5) (pv 6))))
      (pss_one (ps_expr (pe_bm PySem.F.plainAttrs_list PySem.F.slot_list_extend PySem.F.type_list_extend mt_extend (pv 2) (pa_cons (pe_callTy call_list_of (by rfl) T.z_list (by decide +kernel) (pa_cons (pv 3) pa_nil)) pa_nil))))))
      (pss_one (ps_ret (pv 2)))))))), ?_⟩
    refine ⟨_, rfl, L, rfl, sL, good, fun al H1 s1 => ?_, qa⟩
    refine ⟨_, rfl, v, 0, 6, rfl, sv.same s1, fun inr => ?_, fun nr => (qn al nr).same s1⟩
    obtain ⟨n, rfl, n6⟩ : ∃ n : Nat, v = .int (n : Int) ∧ n ≤ 6 := by
      cases v with
      | int i =>
        have := Bool.and_eq_true_iff.mp (show (decide (0 ≤ i) && decide (i ≤ 6)) = true from inr)
        have h0 := of_decide_eq_true this.1
        have h6 := of_decide_eq_true this.2
        exact ⟨i.toNat, by rw [Int.toNat_of_nonneg h0], by omega⟩
      | _ => cases inr
    obtain ⟨z, rfl, az⟩ := al
    replace q := q z n rfl az rfl n6
    have l4 : (cs z).length ≤ 4 := by
      rw [cs_len]
      exact az.len4
    refine ⟨by show 1 ≤ sizeLine; decide, fun W nW => ⟨by show 1 ≤ sizeLine; decide, fun l0 nl => ?_⟩⟩
    refine ⟨_, rfl, (n : Int), rfl, by omega, by omega, ?_⟩
    refine for_range (lo := 0) (n := (n : Int).toNat) (fun i σ H' => ∃ (l : Addr) (y : Option V), σ = [some (.str z), some (.int (n : Int)), some (.ref W), some (.ref l), y, none, none] ∧ H' W = some (.lst ((allW (cs z) i).map strV)) ∧ H' l = some (.lst ((levW (cs z) i).map strV)) ∧ l ≠ W ∧ Same H1 H')
      ⟨l0, none, rfl, same_new nl _ _ upd_same, upd_same, (fun e => by rw [e, upd_same] at nl; cases nl), (same_new nW).trans (same_new nl)⟩ ?_ ?_
    · rintro i σ H' hi ⟨l, y, rfl, hW, hl, ne, sm⟩
      have i6 : i + 1 ≤ 6 := by
        have : i < n := hi
        omega
      refine ⟨_, rfl, l, rfl, ⟨_, .inl (.inl hl)⟩, fun D nD => ?_⟩
      have dW : D ≠ W := fun e => by rw [e, hW] at nD; cases nD
      refine lc2_out (walk_list (K := K) (a := l) (xs := (levW (cs z) i).map strV)) (fun a H2 => Same H' H2 ∧ H2 D = some (.lst ((((levW (cs z) i).take a).flatMap fun w => (cs z).map fun c => w ++ [c]).map strV))) ⟨same_new nD, upd_same⟩ (fun a H2 _ h => .inl (.inl (h.1 _ _ hl))) ?_ ?_
      · rintro a x H2 H3 ha ⟨s2, hD⟩ ⟨rfl, hx⟩
        rw [List.getElem?_map] at hx
        cases ew : (levW (cs z) i)[a]? with
        | none =>
          rw [ew] at hx
          cases hx
        | some w =>
        rw [ew] at hx
        have ex : strV w = x := Option.some.inj hx
        subst ex
        have lw : w.length = i := levW_word _ _ _ (List.mem_of_getElem? ew)
        have la : a < (levW (cs z) i).length := (List.getElem?_eq_some_iff.mp ew).1
        have tk : (levW (cs z) i).take (a + 1) = (levW (cs z) i).take a ++ [w] := by
          rw [List.take_add_one, ew]
          rfl
        have ta : ((levW (cs z) i).take (a + 1)).flatMap (fun w => (cs z).map fun c => w ++ [c]) = ((levW (cs z) i).take a).flatMap (fun w => (cs z).map fun c => w ++ [c]) ++ (cs z).map fun c => w ++ [c] := by
          rw [tk, List.flatMap_append]
          simp
        have part : ∀ b : Nat, ((((levW (cs z) i).take a).flatMap fun w => (cs z).map fun c => w ++ [c]) ++ ((cs z).take b).map fun c => w ++ [c]).length ≤ 4096 * 4 + 4 := fun b => by
          rw [List.length_append, List.length_map, List.length_take]
          have h1 : (((levW (cs z) i).take a).flatMap fun w => (cs z).map fun c => w ++ [c]).length ≤ 4096 * 4 := by
            rw [List.length_flatMap]
            have e : ((levW (cs z) i).take a).map (fun w => ((cs z).map fun c => w ++ [c]).length) = List.replicate ((levW (cs z) i).take a).length (cs z).length := by
              rw [← List.map_const']
              exact List.map_congr_left fun w _ => List.length_map ..
            rw [e, List.sum_replicate_nat]
            have s4 := levW_small l4 (k := i) (by omega)
            have l5 : ((levW (cs z) i).take a).length ≤ 4096 := by
              rw [List.length_take]
              omega
            exact Nat.mul_le_mul l5 l4
          omega
        refine ⟨rfl, ?_⟩
        refine ⟨_, rfl, z, rfl, ?_⟩
        refine lc2_in walk_str (fun b H4 => Same H' H4 ∧ H4 D = some (.lst (((((levW (cs z) i).take a).flatMap fun w => (cs z).map fun c => w ++ [c]) ++ ((cs z).take b).map fun c => w ++ [c]).map strV))) ⟨s2, by rw [List.take_zero, List.map_nil, List.append_nil]; exact hD⟩ (fun _ _ _ _ => trivial) ?_ ?_
        · rintro b y' H4 H5 hb ⟨s4, hD4⟩ ⟨rfl, c, hc, rfl⟩
          have hc' : (cs z)[b]? = some c := by
            show z.cps.toList[b]? = some c
            rw [Array.getElem?_toList]
            exact hc
          refine ⟨rfl, _, rfl, _, rfl, _, _, rfl, rfl, small_text ?_, _, hD4, ?_, (Same.refl H').grown nD s4 hD4, ?_⟩
          · show w.toArray.size + 1 ≤ 1000000
            have : w.toArray.size = w.length := List.size_toArray
            omega
          · rw [List.length_map]
            exact Nat.lt_of_le_of_lt (part b) (by decide)
          · rw [upd_same, List.take_add_one, hc']
            simp only [Option.toList, List.map_append, List.map_cons, List.map_nil, List.append_assoc]
            have e : (V.str ((⟨w.toArray⟩ : Str) ++ (⟨#[c]⟩ : Str))) = strV (w ++ [c]) := by
              refine congrArg V.str (cs_ext ?_)
              rw [cs_app, cs_mk, cs_mk, cs_mk]
            rw [e]
        · rintro H4 ⟨s4, hD4⟩
          have e : List.take z.cps.size (cs z) = cs z := List.take_of_length_le (Nat.le_of_eq (cs_len z))
          rw [e] at hD4
          refine ⟨s4, ?_⟩
          rw [hD4, ta]
      · rintro H2 ⟨s2, hD⟩
        have e : (levW (cs z) i).take ((levW (cs z) i).map strV).length = levW (cs z) i := List.take_of_length_le (by rw [List.length_map]; exact Nat.le_refl _)
        rw [e] at hD
        have hD' : H2 D = some (.lst ((levW (cs z) (i + 1)).map strV)) := hD
        have hW2 := s2 _ _ hW
        refine ⟨_, rfl, .inl ⟨rfl, _, .inl (.inl hW2)⟩, _, rfl, D, _, rfl, .inl (.inl (.inl hD')), fun t nt => ?_⟩
        have k3 := same_new (o := .lst ((levW (cs z) (i + 1)).map strV)) nt
        have hW3 := k3 _ _ hW2
        have hD3 := k3 _ _ hD'
        refine ⟨W, t, _, _, rfl, rfl, hW3, upd_same, ?_, ?_⟩
        · rw [List.length_map, List.length_map]
          have a1 := allW_small l4 (k := i) (by omega)
          have a2 := levW_small l4 i6
          have a3 : 4096 * (i + 1) ≤ 4096 * 6 := Nat.mul_le_mul_left _ i6
          exact small_text (by omega)
        · refine ⟨D, _, rfl, ?_, ?_, dW, ?_⟩
          · rw [upd_same, ← List.map_append]
            rfl
          · rw [upd_ne dW]
            exact hD3
          · exact (Same.refl H1).grown nW ((sm.trans s2).trans k3) hW3
    · rintro σ H' ⟨l, y, rfl, hW, hl, ne, sm⟩
      exact ⟨_, rfl, q W H' (s1.trans sm) (s1.free nW) hW⟩

def sp_word_at [Tabl] (C D : Addr) (_ : PySem.W.Frag) : Sp := fun vs H Q E => ∃ L v : V, vs = [L, v] ∧ Shal H L ∧ Shal H v ∧ Good H ∧ (∀ i : Int, v = .int i → i.natAbs < 2 ^ 13000) ∧ (¬ AlphaV L → Raised H C L E) ∧ (AlphaV L → (∀ n : Nat, v ≠ .int (n : Int)) → Raised H D v E) ∧
  ∀ (z : Str) (n : Nat), L = .str z → IsAlpha z → v = .int (n : Int) → (∀ (x : Str) (H' : Hp), Over z x → x.length ≤ 4000 → num z (cs x) = n → Same H H' → Q (.str x) H') ∧ (geo (cs z).length 4001 ≤ n → Raised H D v E)
theorem ok_word_at (T : Txt K mg base) : FnOk P w K mg base (L2.CX P w) (6 + 1) T.f_word_at T.fd_word_at ["letters", "index"] (sp_word_at T.C_BadLetters T.C_BadNumber K) := by
  refine T.F_word_at.okX sc_word_at (fun vs H Q E h => ?_) (fun cdv A outer s H vs Q E hr h => ?_)
  · obtain ⟨z, n, rfl, _⟩ := h
    rfl
  · obtain ⟨L, v, rfl, sL, sv, good, bigv, qa, qn, qq⟩ := h
    refine ⟨_, (pss_cons (ps_expr (pe_callS (ok_check_letters T) (hr.mono (by first | decide | exact Nat.le_refl _)) (by rfl) T.g_check_letters T.F_check_letters.kp T.b_check_letters (fun σ => passAt (takes_of rfl rfl rfl rfl) σ) (pa_cons (pv 0) pa_nil)))
      (pss_cons (ps_if (PW.pt (pw_or (pt_not (pt_val (pe_call (ok_is_whole T) (hr.mono (by first | decide | exact Nat.le_refl _)) (by rfl) T.g_is_whole T.F_is_whole.kp T.b_is_whole .nil pass0 (pa_cons (pv 1) pa_nil)))) (pw_or1 (pt_cmpR op_lt (pv 1) pe_int (nomark _))))) (pss_one (ps_raise rfl (takes_of rfl rfl rfl rfl) (pmk_err1 T.E_BadNumber T.iI_BadNumber T.tI_BadNumber T.no_BadNumber_value (ok_init1 (k := 0) (p4 := ⟨0, 0, 0, 0⟩) T.FI_BadNumber sci_BadNumber (by decide) rfl) (hr.mono (by first | decide | exact Nat.le_refl _)) T.bI_BadNumber pass0 (pa_cons (pv 1) pa_nil)))) pss_nil)
      (pss_cons (ps_set (i := 2) sc_word_at.nd rfl (.inl rfl) (pe_lst pa_nil))
      (pss_cons (ps_set (i := 3) sc_word_at.nd rfl (.inl rfl) (pv 1))
      (pss_cons (ps_while (passes_of rfl) (pt_cmpR op_gt (pv 3) pe_int (nomark _)) (pss_cons (ps_if (pt_cmpR op_eq (pe_callB call_len_seq (by rfl) T.z_len PySem.boot_len (pa_cons (pv 2) pa_nil)) (pe_glob (v := .int 4000) (by rfl) T.c_MAX_READ ⟨_, rfl⟩) (nomark _)) (pss_one (ps_raise rfl (takes_of rfl rfl rfl rfl) (pmk_err1 T.E_BadNumber T.iI_BadNumber T.tI_BadNumber T.no_BadNumber_value (ok_init1 (k := 0) (p4 := ⟨0, 0, 0, 0⟩) T.FI_BadNumber sci_BadNumber (by decide) rfl) (hr.mono (by first | decide | exact Nat.le_refl _)) T.bI_BadNumber pass0 (pa_cons (pv 1) pa_nil)))) pss_nil)
      (pss_cons (ps_asg (pe_callB call_divmodW (by rfl) T.z_divmod (by decide +kernel) (pa_cons (pe_op op_sub (pv 3) pe_int) (pa_cons (pe_callB call_len_str (by rfl) T.z_len PySem.boot_len (pa_cons (pv 0) pa_nil)) pa_nil))) (pg_tup (by rfl) (pgs_cons (pg_name (i := 3) sc_word_at.nd rfl (.inl rfl)) (pgs_cons (pg_name (i := 4) sc_word_at.nd rfl (.inl rfl)) pgs_nil))))
      (pss_one (ps_expr (pe_bm PySem.F.plainAttrs_list PySem.F.slot_list_append PySem.F.type_list_append mt_append (pv 2) (pa_cons (pe_ix ix_str (pv 0) (pv 4) (fun _ _ => rfl)) pa_nil)))))))
      (pss_one (ps_ret (pe_joinRev rfl (by rfl) T.z_reversed pe_str (pv 2))))))))), ?_⟩
    refine ⟨_, rfl, L, rfl, sL, good, fun alV H1 s1 => ?_, qa⟩
    refine ⟨_, rfl, v, rfl, sv.same s1, ?_⟩
    refine ⟨_, rfl, ?_⟩
    cases hv : isInt v with
    | false =>
      refine iteC rfl (iteC rfl ?_)
      exact ⟨_, rfl, _, rfl, fun d nd => qn alV (fun n e => by rw [e] at hv; cases hv) d H1 _ s1 nd rfl⟩
    | true =>
    obtain ⟨i, rfl⟩ := isInt_of hv
    refine iteF ?_
    refine ⟨_, rfl, _, _, rfl, rfl, _, rfl, ?_⟩
    by_cases neg : i < 0
    · rw [decide_eq_true neg]
      refine iteC rfl ?_
      exact ⟨_, rfl, _, rfl, fun d nd => qn alV (fun n e => by cases e; omega) d H1 _ s1 nd rfl⟩
    obtain ⟨n, rfl⟩ : ∃ n : Nat, i = (n : Int) := ⟨i.toNat, (Int.toNat_of_nonneg (by omega)).symm⟩
    obtain ⟨z, rfl, al⟩ := alV
    obtain ⟨q, qe⟩ := qq z n rfl al rfl
    have big : n < 2 ^ 13000 := bigv _ rfl
    rw [decide_eq_false (by omega : ¬ ((n : Int) < 0))]
    refine iteF ?_
    refine ⟨by decide, fun b nb => ?_⟩
    have kk : (cs z).length = z.length := cs_len z
    have k1 : 1 ≤ (cs z).length := by
      rw [kk]
      exact al.len1
    have k4 : (cs z).length ≤ 4 := by
      rw [kk]
      exact al.len4
    refine ⟨_, rfl, ?_⟩
    refine while_by (fun σ H' => ∃ (ds : List Nat) (r : Nat) (dg : Option V), σ = [some (.str z), some (.int (n : Int)), some (.ref b), some (.int (r : Int)), dg] ∧ H' b = some (.lst (ds.map signV)) ∧ ds.length ≤ 4000 ∧ (∀ c ∈ ds, c ∈ cs z) ∧ n = r * (cs z).length ^ ds.length + num z ds.reverse ∧ Same H H')
      (fun σ _ => match σ with | [_, _, _, some (.int r), _] => r.toNat | _ => 0) ⟨[], n, none, rfl, upd_same, by decide, fun c m => absurd m List.not_mem_nil, by simp [num], s1.trans (same_new nb)⟩ ?_ ?_
    · rintro σ H' ⟨ds, r, dg, rfl, hb, ld, md, en, sm⟩
      refine ⟨_, rfl, _, _, rfl, rfl, _, rfl, ite2 (fun g => ?_) (fun g => ?_)⟩
      · have r1 : 1 ≤ r := by
          have := of_decide_eq_true g
          omega
        refine ⟨.ref b, rfl, _, _, rfl, .inl (.inl (.inl hb)), rfl, _, rfl, ?_⟩
        by_cases l4 : ds.length = 4000
        · refine iteC (by rw [List.length_map, l4]; rfl) ?_
          refine ⟨_, rfl, _, rfl, fun d nd => qe ?_ d H' _ sm nd rfl⟩
          have low := (num_geo k1 4000 ds.reverse (by rw [List.length_reverse, l4]) fun c m => md c (List.mem_reverse.mp m)).1
          have m1 : 1 * (cs z).length ^ 4000 ≤ r * (cs z).length ^ 4000 := Nat.mul_le_mul_right _ r1
          have up : geo (cs z).length 4001 = geo (cs z).length 4000 + (cs z).length ^ 4000 := rfl
          rw [l4] at en
          omega
        · refine iteN (by rw [List.length_map]; simp; omega) ?_
          refine ⟨_, rfl, _, _, rfl, rfl, _, rfl, z, rfl, small_text al.small, _, _, rfl, ?_, fun p np => ?_⟩
          · refine ⟨by omega, PyProof.noPylong_of_log2 ?_⟩
            refine Nat.lt_of_lt_of_le (PySem.Flt.log2_lt_of (k := 3) (by decide) ?_) (by decide)
            simp only [Int.natAbs_natCast]
            omega
          · refine ⟨p, _, rfl, .inl (.inl upd_same), rfl, _, _, rfl, _, _, rfl, rfl, ?_⟩
            have e1 : ((r : Int) - 1) = ((r - 1 : Nat) : Int) := by omega
            have e2 : ((r : Int) - 1) / (z.length : Int) = (((r - 1) / z.length : Nat) : Int) := by rw [e1]; rfl
            have e3 : ((r : Int) - 1) % (z.length : Int) = (((r - 1) % z.length : Nat) : Int) := by rw [e1]; rfl
            have dl : (r - 1) % z.length < (cs z).length := by
              rw [kk]
              exact Nat.mod_lt _ (by omega)
            rw [e2, e3]
            have hb2 : (upd H' p (.tup [.int (((r - 1) / z.length : Nat) : Int), .int (((r - 1) % z.length : Nat) : Int)])) b = some (.lst (ds.map signV)) := same_new np _ _ hb
            refine ⟨_, rfl, .inl ⟨rfl, _, .inl (.inl hb2)⟩, _, rfl, _, rfl, ?_⟩
            obtain ⟨c, hc⟩ : ∃ c, (cs z)[(r - 1) % z.length]? = some c := ⟨_, List.getElem?_eq_getElem dl⟩
            have cm : c ∈ cs z := List.mem_of_getElem? hc
            refine ⟨z, _, c, rfl, rfl, small_text al.small, atI_nat hc, b, _, _, rfl, rfl, hb2, ?_, ⟨ds ++ [c], (r - 1) / z.length, _, rfl, ?_, ?_, ?_, ?_, s1.grown nb (sm.trans (same_new np)) hb2⟩, ?_⟩
            · rw [List.length_map]
              exact Nat.lt_of_lt_of_le (by omega : ds.length < 1000000) (by decide)
            · rw [upd_same, List.map_append]
              rfl
            · rw [List.length_append, List.length_singleton]
              omega
            · intro d m
              rcases List.mem_append.mp m with m | m
              · exact md d m
              · rw [List.mem_singleton.mp m]
                exact cm
            · rw [List.length_append, List.length_singleton, List.reverse_append, List.reverse_singleton, List.singleton_append, num_cons, List.length_reverse, pl_at al.nodup hc, ← kk, Nat.pow_succ, ← Nat.add_assoc, Nat.mul_comm ((cs z).length ^ ds.length), ← Nat.mul_assoc, ← Nat.add_mul, en]
              congr 2
              have := Nat.div_add_mod (r - 1) (cs z).length
              rw [Nat.mul_comm] at this
              omega
            · show ((((r - 1) / z.length : Nat) : Int)).toNat < (((r : Nat) : Int)).toNat
              rw [Int.toNat_natCast, Int.toNat_natCast]
              exact Nat.lt_of_le_of_lt (Nat.div_le_self _ _) (by omega)
      · have r0 : r = 0 := by
          have h : ¬ (0 : Int) < (r : Int) := fun h => g (decide_eq_true h)
          omega
        rw [r0, Nat.zero_mul, Nat.zero_add] at en
        have hw : (ds.map signV) = (ds.map signS).map V.str := by
          rw [List.map_map]
          rfl
        have back : (ds.map signS).reverse = ds.reverse.map signS := List.map_reverse.symm
        refine ⟨_, rfl, _, rfl, b, ds.map signS, rfl, SqL.of (by rw [← hw]; exact hb), ?_, ?_⟩
        · rw [back]
          exact join_fits (by rw [List.length_reverse]; omega)
        · rw [back]
          refine q _ H' (fun c m => ?_) ?_ ?_ sm
          · rw [join_signs] at m
            exact md c (List.mem_reverse.mp m)
          · rw [← cs_len, join_signs, List.length_reverse]
            exact ld
          · rw [join_signs]
            exact en.symm
    · rintro σ H' Q1 Q2 imp ⟨v, e, i, j, e1, e2, k, ek, h⟩
      exact ⟨v, e, i, j, e1, e2, k, ek, imp _ _ h⟩

/-- what is due of all_words, of word_at -/
def DueC (L v : V) (H : Hp) (d : V) : Prop := (¬ AlphaV L ∧ ∃ p, d = .ref p ∧ H p = some (.tup [.str (Str.ofString "BadLetters"), L])) ∨ (AlphaV L ∧ inR v 0 6 = false ∧ ∃ p, d = .ref p ∧ H p = some (.tup [.str (Str.ofString "BadNumber"), v])) ∨
  (∃ (z : Str) (n : Nat), L = .str z ∧ IsAlpha z ∧ v = .int (n : Int) ∧ n < 2 ∧ ∃ p r, d = .ref p ∧ H p = some (.tup [.str (Str.ofString "gave"), .ref r]) ∧ H r = some (.lst ((allW (cs z) n).map strV))) ∨ d = .non
def LateC (L v : V) (H : Hp) (d : V) : Prop := (¬ AlphaV L ∧ ∃ p, d = .ref p ∧ H p = some (.tup [.str (Str.ofString "BadLetters"), L])) ∨ (AlphaV L ∧ (∀ n : Nat, v ≠ .int (n : Int)) ∧ ∃ p, d = .ref p ∧ H p = some (.tup [.str (Str.ofString "BadNumber"), v])) ∨
  (∃ (z : Str) (n : Nat) (x : Str), L = .str z ∧ IsAlpha z ∧ v = .int (n : Int) ∧ Over z x ∧ num z (cs x) = n ∧ x.length ≤ 1 ∧ ∃ p, d = .ref p ∧ H p = some (.tup [.str (Str.ofString "gave"), .str x])) ∨ d = .non
theorem DueC.same [Tabl] {L v d : V} {H H' : Hp} (h : DueC L v H d) (s : Same H H') : DueC L v H' d := by
  rcases h with ⟨n, p, e, h⟩ | ⟨a, n, p, e, h⟩ | ⟨z, n, e1, a, e2, l, p, r, e, h, k⟩ | e
  · exact .inl ⟨n, p, e, s _ _ h⟩
  · exact .inr (.inl ⟨a, n, p, e, s _ _ h⟩)
  · exact .inr (.inr (.inl ⟨z, n, e1, a, e2, l, p, r, e, s _ _ h, s _ _ k⟩))
  · exact .inr (.inr (.inr e))
theorem LateC.same [Tabl] {L v d : V} {H H' : Hp} (h : LateC L v H d) (s : Same H H') : LateC L v H' d := by
  rcases h with ⟨n, p, e, h⟩ | ⟨a, n, p, e, h⟩ | ⟨z, n, x, e1, a, e2, o, m, l, p, e, h⟩ | e
  · exact .inl ⟨n, p, e, s _ _ h⟩
  · exact .inr (.inl ⟨a, n, p, e, s _ _ h⟩)
  · exact .inr (.inr (.inl ⟨z, n, x, e1, a, e2, o, m, l, p, e, s _ _ h⟩))
  · exact .inr (.inr (.inr e))
def sp_numbers_checked [Tabl] (_ : PySem.W.Frag) : Sp := fun vs H Q _ => ∃ L v : V, vs = [L, v] ∧ (∃ a, Deep a 6 H L ∧ Deep a 1 H v) ∧ Good H ∧ ∀ H' : Hp, Same H H' → Q (.bl true) H'
theorem ok_numbers_checked (T : Txt K mg base) : FnOk P w K mg base CX0 (13 + 1) T.f_numbers_checked T.fd_numbers_checked ["letters", "number"] (sp_numbers_checked K) := by
  refine T.F_numbers_checked.ok sc_numbers_checked (fun vs H Q E h => ?_) (fun A outer s H vs Q E hr h => ?_)
  · obtain ⟨L, v, rfl, _⟩ := h
    rfl
  · obtain ⟨L, v, rfl, ⟨a, dL, dv⟩, good, q⟩ := h
    refine ⟨_, (pss_cons (ps_set (i := 2) sc_numbers_checked.nd rfl (.inl rfl) (pe_tup (pa_cons pe_str (pa_cons (pv 1) pa_nil))))
      (pss_cons (ps_set (i := 3) sc_numbers_checked.nd rfl (.inl rfl) (pe_tup (pa_cons pe_str (pa_cons (pv 1) pa_nil))))
      (C8.pss_cut (ps_if (pt_not (pt_val (pe_call (ok_good_letters T) (hr.mono (by first | decide | exact Nat.le_refl _)) (by rfl) T.g_good_letters T.F_good_letters.kp T.b_good_letters .nil pass0 (pa_cons (pv 0) pa_nil)))) (pss_cons (ps_set (i := 2) sc_numbers_checked.nd rfl (.inl rfl) (pe_tup (pa_cons pe_str (pa_cons (pv 0) pa_nil))))
      (pss_one (ps_set (i := 3) sc_numbers_checked.nd rfl (.inl rfl) (pe_tup (pa_cons pe_str (pa_cons (pv 0) pa_nil)))))) (pss_one (ps_if (PW.pt (pw_and (pt_val (pe_call (ok_is_integer T) (hr.mono (by first | decide | exact Nat.le_refl _)) (by rfl) T.g_is_integer T.F_is_integer.kp T.b_is_integer .nil pass0 (pa_cons (pv 1) pa_nil))) (pw_and1 (pt_cmpR op_ge (pv 1) pe_int (nomark _))))) (pss_cons (ps_set (i := 4) sc_numbers_checked.nd rfl (.inl rfl) (pe_op op_cat (pe_lst (pa_cons pe_str pa_nil)) (pe_lc (own := [("x", 5)]) (g := gName 5) rfl sc_numbers_checked.nd (pi_str (pv 0)) (blkOk_by (N := ["letters", "number", "due", "late", "row", "x"]) (sc := defScope s_numbers_checked) (by decide +kernel)) (fun _ _ _ _ _ => pg_name (i := 5) sc_numbers_checked.nd rfl (Or.inl rfl)) (fun _ _ _ _ _ => pts_nil) (fun _ _ _ _ _ => (pv 5)))))
      (pss_cons (ps_set (i := 3) sc_numbers_checked.nd rfl (.inl rfl) (pe_tup (pa_cons pe_str (pa_cons (pe_ix ix_list (pv 4) (pe_callB (call_min2 rfl) (by rfl) T.z_min (by decide +kernel) (pa_cons (pv 1) (pa_cons (pe_callB call_len_str (by rfl) T.z_len PySem.boot_len (pa_cons (pv 0) pa_nil)) pa_nil))) (fun _ _ => rfl)) pa_nil))))
      (C8.pss_cut (ps_if (pt_cmpR op_gt (pv 1) (pe_callB call_len_str (by rfl) T.z_len PySem.boot_len (pa_cons (pv 0) pa_nil)) (nomark _)) (pss_one (ps_set (i := 3) sc_numbers_checked.nd rfl (.inl rfl) pe_non)) pss_nil)
      (pss_one (ps_if (pt_cmpR op_lt (pv 1) pe_int (nomark _)) (pss_one (ps_set (i := 2) sc_numbers_checked.nd rfl (.inl rfl) (pe_tup (pa_cons pe_str (pa_cons (pe_slice sl_list (pv 4) po_none (po_some (pe_op op_add pe_int (pe_op op_mul (pv 1) (pe_callB call_len_str (by rfl) T.z_len PySem.boot_len (pa_cons (pv 0) pa_nil)))))) pa_nil))))) (pss_one (ps_if (pt_cmpR op_lt (pv 1) pe_int (nomark _)) (pss_one (ps_set (i := 2) sc_numbers_checked.nd rfl (.inl rfl) pe_non)) pss_nil))))))) pss_nil)))
      (pss_cons (ps_if (PW.pt (pw_and (pt_cmpR op_notN (pv 2) pe_non (nomark _)) (pw_and1 (pt_not (pt_val (pe_call (ok_sameB T) (hr.mono (by first | decide | exact Nat.le_refl _)) (by rfl) T.g_same T.F_same.kp T.b_same .nil pass0 (pa_cons (pe_lam (k := 6) T.F_gave T.b_gave sc_gave (fun cdg => gives_gave T _ _ _ _ _ _ _ _ _ _ cdg) T.B_numbers_checked T.m_numbers_checked rfl (hr.mono (by first | decide | exact Nat.le_refl _)) (LamX.lamS_by (sc := defScope s_numbers_checked) (by decide +kernel)) T.g_gave (fun A outer s H E f c hr2 => pe_callS (ok_all_words T) hr2 (by rfl) T.g_all_words T.F_all_words.kp T.b_all_words (fun σ => passAt (takes_of rfl rfl rfl rfl) σ) (pa_cons (pv 0) (pa_cons (pv 1) pa_nil)))) (pa_cons (pv 2) pa_nil)))))))) (pss_one (ps_ret pe_bl)) pss_nil)
      (pss_one (ps_ret (pe_or (pe_cmpR op_isN (pv 3) pe_non (nomark _)) (pe_one (pe_call (ok_sameB T) (hr.mono (by first | decide | exact Nat.le_refl _)) (by rfl) T.g_same T.F_same.kp T.b_same .nil pass0 (pa_cons (pe_lam (k := 7) T.F_gave T.b_gave sc_gave (fun cdg => gives_gave T _ _ _ _ _ _ _ _ _ _ cdg) T.B_numbers_checked T.m_numbers_checked rfl (hr.mono (by first | decide | exact Nat.le_refl _)) (LamX.lamS_by (sc := defScope s_numbers_checked) (by decide +kernel)) T.g_gave (fun A outer s H E f c hr2 => pe_callS (ok_word_at T) hr2 (by rfl) T.g_word_at T.F_word_at.kp T.b_word_at (fun σ => passAt (takes_of rfl rfl rfl rfl) σ) (pa_cons (pv 0) (pa_cons (pv 1) pa_nil)))) (pa_cons (pv 3) pa_nil))))))))))), ?_⟩
    have sL := dL.shal
    have sv := dv.shal
    refine ⟨_, rfl, by show 2 ≤ sizeLine; decide, fun p0 n0 => ⟨_, rfl, by show 2 ≤ sizeLine; decide, fun p1 n1 => ?_⟩⟩
    have s1 : Same H (upd (upd H p0 (.tup [.str (Str.ofString "BadNumber"), v])) p1 (.tup [.str (Str.ofString "BadNumber"), v])) := (same_new n0).trans (same_new n1)
    have h0 : (upd (upd H p0 (.tup [.str (Str.ofString "BadNumber"), v])) p1 (.tup [.str (Str.ofString "BadNumber"), v])) p0 = some (.tup [.str (Str.ofString "BadNumber"), v]) := same_new n1 _ _ upd_same
    have h1 : (upd (upd H p0 (.tup [.str (Str.ofString "BadNumber"), v])) p1 (.tup [.str (Str.ofString "BadNumber"), v])) p1 = some (.tup [.str (Str.ofString "BadNumber"), v]) := upd_same
    generalize upd (upd H p0 (.tup [.str (Str.ofString "BadNumber"), v])) p1 (.tup [.str (Str.ofString "BadNumber"), v]) = H1 at s1 h0 h1 ⊢
    refine ⟨fun σ' H' => ∃ (d l : V) (y1 : Option V), σ' = [some L, some v, some d, some l, y1, none] ∧ Same H H' ∧ DueC L v H' d ∧ LateC L v H' l, ?_, ?_⟩
    · refine ⟨_, rfl, L, rfl, sL.same s1, fun g hg => ⟨_, rfl, ?_⟩⟩
      cases g with
      | false =>
        have na : ¬ AlphaV L := fun h => by cases hg.mpr h
        exact iteC rfl ⟨_, rfl, by show 2 ≤ sizeLine; decide, fun r1 m1 => ⟨_, rfl, by show 2 ≤ sizeLine; decide, fun r2 m2 => ⟨.ref r1, .ref r2, none, rfl, (s1.trans (same_new m1)).trans (same_new m2), .inl ⟨na, r1, rfl, same_new m2 _ _ upd_same⟩, .inl ⟨na, r2, rfl, upd_same⟩⟩⟩⟩
      | true =>
      have al := hg.mp rfl
      have wrong : inR v 0 6 = false → (∀ n : Nat, v ≠ .int (n : Int)) → ∃ (d l : V) (y1 : Option V), [some L, some v, some (V.ref p0), some (V.ref p1), none, none] = [some L, some v, some d, some l, y1, none] ∧ Same H H1 ∧ DueC L v H1 d ∧ LateC L v H1 l := fun e1 e2 =>
        ⟨.ref p0, .ref p1, none, rfl, s1, .inr (.inl ⟨al, e1, p0, rfl, h0⟩), .inr (.inl ⟨al, e2, p1, rfl, h1⟩)⟩
      refine iteF ⟨_, rfl, v, rfl, sv.same s1, _, rfl, ?_⟩
      cases hv : isInt v with
      | false =>
        refine iteF (iteF (wrong ?_ fun n e => by rw [e] at hv; cases hv))
        cases v <;> first | rfl | cases hv
      | true =>
      obtain ⟨i, rfl⟩ := isInt_of hv
      refine iteT ⟨_, rfl, _, _, rfl, rfl, _, rfl, ite2 (fun g0 => ?_) (fun g0 => ?_)⟩
      · obtain ⟨n, rfl⟩ := Int.eq_ofNat_of_zero_le (of_decide_eq_true g0)
        obtain ⟨z, rfl, az⟩ := al
        refine ⟨by show 1 ≤ sizeLine; decide, fun q0 m0 => ⟨_, rfl, z, rfl, fun D nD => ?_⟩⟩
        have hz4 := az.len4
        have sq := same_new (o := .lst [.str (Str.ofString "")]) m0
        have hq0 : (upd H1 q0 (.lst [.str (Str.ofString "")])) q0 = some (.lst [.str (Str.ofString "")]) := upd_same
        generalize upd H1 q0 (.lst [.str (Str.ofString "")]) = H2 at sq hq0 nD ⊢
        refine lc_it walk_str (fun n H' => H' D = some (.lst (((cs z).take n).map signV)) ∧ Same H2 H') ⟨by rw [upd_same, List.take_zero]; rfl, same_new nD⟩ (fun _ _ _ _ => trivial) ?_ ?_
        · rintro n v H4 H5 hn ⟨h1, h2⟩ ⟨rfl, c, hc, rfl⟩
          have hc' : (cs z)[n]? = some c := by
            show z.cps.toList[n]? = some c
            rw [Array.getElem?_toList]
            exact hc
          refine ⟨rfl, _, rfl, _, h1, ?_, ?_, ?_⟩
          · rw [List.length_map, List.length_take, cs_len]
            exact Nat.lt_of_le_of_lt (Nat.min_le_right _ _) (Nat.lt_of_le_of_lt (m := 1000000) (by omega) (by decide))
          · rw [upd_same, List.take_add_one, hc', List.map_append]
            rfl
          · exact (Same.refl H2).grown nD h2 h1
        · rintro H' ⟨h1, h2⟩
          have e : List.take z.cps.size (cs z) = cs z := List.take_of_length_le (Nat.le_of_eq (cs_len z))
          rw [e] at h1
          have nDq : D ≠ q0 := fun e => by rw [e, hq0] at nD; cases nD
          refine ⟨q0, D, _, _, rfl, rfl, h2 _ _ hq0, h1, ?_, fun rr nr => ?_⟩
          · rw [List.length_map, cs_len]
            exact small_text (show 1 + z.length ≤ 1000000 by have := az.len4; omega)
          have s3 := (s1.trans sq).trans (h2.trans (same_new (o := .lst ([.str (Str.ofString "")] ++ (cs z).map signV)) nr))
          have hrr : (upd H' rr (.lst ([.str (Str.ofString "")] ++ (cs z).map signV))) rr = some (.lst ([.str (Str.ofString "")] ++ (cs z).map signV)) := upd_same
          have hp0' := (sq.trans (h2.trans (same_new (o := .lst ([.str (Str.ofString "")] ++ (cs z).map signV)) nr))) _ _ h0
          generalize upd H' rr (.lst ([.str (Str.ofString "")] ++ (cs z).map signV)) = H3 at s3 hrr hp0' ⊢
          have em : (if (z.length : Int) < (n : Int) then (z.length : Int) else (n : Int)) = ((min n z.length : Nat) : Int) := by
            by_cases g : (z.length : Int) < (n : Int)
            · rw [if_pos g]
              omega
            · rw [if_neg g]
              omega
          obtain ⟨x, hx, ox, nx, lx⟩ : ∃ x : Str, ([V.str (Str.ofString "")] ++ (cs z).map signV)[min n z.length]? = some (.str x) ∧ Over z x ∧ num z (cs x) = min n z.length ∧ x.length ≤ 1 := by
            cases hm : min n z.length with
            | zero => exact ⟨Str.ofString "", rfl, (fun c m => by rw [cs_empty] at m; cases m), (by rw [cs_empty]; rfl), by decide +kernel⟩
            | succ k =>
              have kz : k < (cs z).length := by
                rw [cs_len]
                omega
              have hk : (cs z)[k]? = some (cs z)[k] := List.getElem?_eq_getElem kz
              refine ⟨⟨#[(cs z)[k]]⟩, ?_, fun c m => ?_, ?_, by show 1 ≤ 1; decide⟩
              · show ((cs z).map signV)[k]? = _
                rw [List.getElem?_map, hk]
                rfl
              · rw [cs_one] at m
                rw [List.mem_singleton.mp m]
                exact List.getElem_mem _
              · rw [cs_one]
                have e := num_snoc z [] (cs z)[k]
                have e0 : num z [] = 0 := rfl
                rw [List.nil_append, e0, Nat.zero_mul, Nat.zero_add, pl_at az.nodup hk] at e
                exact e
          refine ⟨_, rfl, _, rfl, _, rfl, z, rfl, small_text az.small, _, _, rfl, ?_⟩
          rw [em]
          refine ⟨_, _, _, _, rfl, rfl, .inl (.inl hrr), atI_nat hx, by show 2 ≤ sizeLine; decide, fun r3 n3 => ?_⟩
          have k4 := same_new (o := .tup [.str (Str.ofString "gave"), .str x]) n3
          have hr3 : (upd H3 r3 (.tup [.str (Str.ofString "gave"), .str x])) r3 = some (.tup [.str (Str.ofString "gave"), .str x]) := upd_same
          generalize upd H3 r3 (.tup [.str (Str.ofString "gave"), .str x]) = H4 at k4 hr3 ⊢
          refine ⟨fun σ' H5 => ∃ l : V, σ' = [some (.str z), some (.int (n : Int)), some (.ref p0), some l, some (.ref rr), none] ∧ H5 = H4 ∧ LateC (.str z) (.int (n : Int)) H4 l, ?_, ?_⟩
          · refine ⟨_, rfl, _, rfl, z, rfl, small_text az.small, _, _, rfl, rfl, _, rfl, ite2 (fun g => ?_) (fun g => ?_)⟩
            · exact ⟨.non, rfl, rfl, .inr (.inr (.inr rfl))⟩
            · have g : ¬ (z.length : Int) < (n : Int) := fun h => g (decide_eq_true h)
              exact ⟨.ref r3, rfl, rfl, .inr (.inr (.inl ⟨z, n, x, rfl, az, rfl, ox, by rw [nx]; omega, lx, r3, rfl, hr3⟩))⟩
          rintro σ' H5 ⟨l, rfl, rfl, hl⟩
          refine ⟨_, rfl, _, _, rfl, rfl, _, rfl, ite2 (fun g => ?_) (fun g => ?_)⟩
          · have n2 : n < 2 := by
              have := of_decide_eq_true g
              omega
            refine ⟨_, rfl, _, rfl, _, rfl, z, rfl, small_text az.small, _, _, rfl, rfl, .inr ⟨by omega, by omega⟩, _, _, rfl, rfl, _, rfl, rr, _, rfl, .inl (.inl (k4 _ _ hrr)), fun p4 n4 => ⟨by show 2 ≤ sizeLine; decide, fun p5 n5 => ?_⟩⟩
            have ec : (1 : Int) + (n : Int) * (z.length : Int) = ((1 + n * z.length : Nat) : Int) := by
              push_cast
              rfl
            have ew : cutV ([V.str (Str.ofString "")] ++ (cs z).map signV) none (some ((1 : Int) + (n : Int) * (z.length : Int))) = (allW (cs z) n).map strV := by
              rw [ec, cutV_upto]
              have sg : (cs z).map signV = (levW (cs z) 1).map strV := by
                show _ = ([[]].flatMap fun w => (cs z).map fun c => w ++ [c]).map strV
                rw [List.flatMap_cons, List.flatMap_nil, List.append_nil, List.map_map]
                rfl
              match n, n2 with
              | 0, _ =>
                rw [Nat.zero_mul]
                rfl
              | 1, _ =>
                rw [List.take_of_length_le (by rw [List.length_append, List.length_map, cs_len, Nat.one_mul]; exact Nat.le_refl _), sg]
                rfl
            have k5 := same_new (o := .lst (cutV ([V.str (Str.ofString "")] ++ (cs z).map signV) none (some ((1 : Int) + (n : Int) * (z.length : Int))))) n4
            have k6 := same_new (o := .tup [.str (Str.ofString "gave"), .ref p4]) n5
            have hl4 := k6 _ _ (upd_same (H := H5) (a := p4) (o := .lst (cutV ([V.str (Str.ofString "")] ++ (cs z).map signV) none (some ((1 : Int) + (n : Int) * (z.length : Int))))))
            exact ⟨.ref p5, l, _, rfl, ((s3.trans k4).trans k5).trans k6, .inr (.inr (.inl ⟨z, n, rfl, az, rfl, n2, p5, p4, rfl, upd_same, hl4.trans (congrArg (fun l => some (HO.lst l)) ew)⟩)), (hl.same k5).same k6⟩
          · refine ⟨_, rfl, _, _, rfl, rfl, _, rfl, ite2 (fun g7 => ?_) (fun g7 => ?_)⟩
            · exact ⟨.non, l, _, rfl, s3.trans k4, .inr (.inr (.inr rfl)), hl⟩
            · have n7 : ¬ (n : Int) < 7 := fun h => g7 (decide_eq_true h)
              refine ⟨.ref p0, l, _, rfl, s3.trans k4, .inr (.inl ⟨⟨z, rfl, az⟩, ?_, p0, rfl, k4 _ _ hp0'⟩), hl⟩
              show (decide (0 ≤ (n : Int)) && decide ((n : Int) ≤ 6)) = false
              rw [decide_eq_false (by omega : ¬ (n : Int) ≤ 6), Bool.and_false]
      · have neg : ¬ 0 ≤ i := fun h => g0 (decide_eq_true h)
        refine wrong ?_ fun n e => by cases e; omega
        show (decide (0 ≤ i) && decide (i ≤ 6)) = false
        rw [decide_eq_false neg, Bool.false_and]
    rintro σ' H' ⟨d, l, y1, rfl, sm, hd, hl⟩
    have sN : ∀ {Hx : Hp} {x : V}, Same H Hx → (x = L ∨ x = v) → SameD 8 Hx x x ∧ DeepN 8 Hx x := fun sx e => by
      rcases e with e | e
      · subst e
        exact ⟨((dL.same sx).le (by decide : 6 ≤ 8)).samed, ((dL.same sx).le (by decide : 6 ≤ 8)).toN⟩
      · subst e
        exact ⟨((dv.same sx).le (by decide : 1 ≤ 8)).samed, ((dv.same sx).le (by decide : 1 ≤ 8)).toN⟩
    refine skip_seq (fun H3 => Same H' H3) (fun Qx k => ⟨_, rfl, rfl, _, rfl, ?_⟩) (fun H3 s3 => ?_)
    · by_cases e : d = .non
      · rw [e]
        exact iteF (k _ (.refl H'))
      refine iteC (by rw [decide_eq_false e]; rfl) ?_
      refine lift_not _ (gave_run2 T d (sm.good good) fun H2 E' Q' s2 val err => ?_) ?_
      · have sD := sm.trans s2
        have inr : ∀ {n : Nat}, v = .int (n : Int) → n ≤ 6 → inR v 0 6 = true := fun {n} e h => by
          rw [e]
          show (decide (0 ≤ (n : Int)) && decide ((n : Int) ≤ 6)) = true
          rw [decide_eq_true (by omega), decide_eq_true (by omega)]
          rfl
        refine ⟨_, rfl, _, rfl, L, v, rfl, sL.same sD, sv.same sD, sD.good good, fun na => err _ _ _ (.inl ⟨rfl, rfl⟩) ?_, fun al nr => err _ _ _ (.inr (.inr (.inl ⟨rfl, rfl⟩))) ?_, fun z n e1 a1 e2 n6 p H4 s4 np hp => val _ H4 s4 ?_⟩
        · rcases hd with ⟨_, pd, e, h⟩ | ⟨al, _⟩ | ⟨z, n, e1, a1, _⟩ | e'
          · exact ⟨pd, _, L, L, e, h, rfl, (sN sm (.inl rfl)).1, (sN sm (.inl rfl)).2, (sN sm (.inl rfl)).2, by decide +kernel⟩
          · exact (na al).elim
          · exact (na ⟨z, e1, a1⟩).elim
          · exact (e e').elim
        · rcases hd with ⟨n, _⟩ | ⟨_, _, pd, e, h⟩ | ⟨z, n, e1, a1, e2, l2, _⟩ | e'
          · exact (n al).elim
          · exact ⟨pd, _, v, v, e, h, rfl, (sN sm (.inr rfl)).1, (sN sm (.inr rfl)).2, (sN sm (.inr rfl)).2, by decide +kernel⟩
          · rw [inr e2 (by omega)] at nr
            cases nr
          · exact (e e').elim
        · rcases hd with ⟨n', _⟩ | ⟨_, nr, _⟩ | ⟨z', n', e1', a1', e2', l2, pd, r, ed, h, hr⟩ | e'
          · exact (n' ⟨z, e1, a1⟩).elim
          · rw [inr e2 n6] at nr
            cases nr
          · rw [e1] at e1'
            rw [e2] at e2'
            cases e1'
            have en : n = n' := by
              have := V.int.inj e2'
              omega
            subst en
            have hr4 := (s2.trans s4) _ _ hr
            have z4 : (cs z).length ≤ 4 := by
              rw [cs_len]
              exact a1.len4
            have small : ((allW (cs z) n).map strV).length ≤ 1000000 := by
              rw [List.length_map]
              have a1 := allW_small z4 n6
              have a3 : 4096 * (n + 1) ≤ 4096 * 7 := Nat.mul_le_mul_left _ (by omega)
              omega
            have its : ∀ y ∈ (allW (cs z) n).map strV, plainV y = true ∧ ∀ x : Str, y = .str x → x.length ≤ 1000000 := fun y m => by
              obtain ⟨w, hw, rfl⟩ := List.mem_map.mp m
              refine ⟨rfl, fun x e => ?_⟩
              cases e
              have := allW_word _ _ _ hw
              show w.toArray.size ≤ 1000000
              rw [List.size_toArray]
              omega
            refine ⟨pd, _, .ref p, .ref r, ed, (s2.trans s4) _ _ h, rfl, .inr ⟨p, r, _, _, rfl, rfl, .inr ⟨hp, hr4⟩, rfl, small, fun i x y ex ey => ?_⟩, .inr ⟨p, _, rfl, .inl hp, small, fun y m => .inl (its y m)⟩, .inr ⟨r, _, rfl, .inl hr4, small, fun y m => .inl (its y m)⟩, by decide +kernel⟩
            rw [ex] at ey
            cases ey
            exact .inl ⟨rfl, (its x (List.mem_of_getElem? ex)).1⟩
          · exact (e e').elim
      · rintro _ H3 ⟨tt, zs, rfl, s3, ht, pz⟩
        obtain ⟨f1, f2, f3⟩ := pz.fit ht
        refine ⟨_, rfl, _, _, rfl, f2, f3, fun b hb => ⟨_, rfl, ?_⟩⟩
        have bt : b = true := hb.mpr f1
        subst bt
        exact k _ s3
    have sm3 := sm.trans s3
    have hl3 := hl.same s3
    by_cases e : l = .non
    · exact ⟨_, rfl, rfl, _, rfl, iteC (decide_eq_true e) (q H3 sm3)⟩
    · refine ⟨_, rfl, rfl, _, rfl, iteN (decide_eq_false e) ?_⟩
      refine lift_call _ (gave_run2 T l (sm3.good good) fun H4 E' Q' s4 val err => ?_) ?_
      · have sD := sm3.trans s4
        have bnd : ∀ i : Int, v = .int i → i.natAbs < 2 ^ 13000 := fun i ei => by
          rcases dv with ⟨_, _, it⟩ | ⟨p, xs, ep, _⟩
          · exact it i ei
          · rw [ep] at ei
            cases ei
        refine ⟨_, rfl, _, rfl, L, v, rfl, sL.same sD, sv.same sD, sD.good good, bnd, fun na => err _ _ _ (.inl ⟨rfl, rfl⟩) ?_, fun al nn => err _ _ _ (.inr (.inr (.inl ⟨rfl, rfl⟩))) ?_, fun z n e1 a1 e2 => ?_⟩
        · rcases hl3 with ⟨_, pd, ed, h⟩ | ⟨al, _⟩ | ⟨z, n, x, e1, a1, _⟩ | e'
          · exact ⟨pd, _, L, L, ed, h, rfl, (sN sm3 (.inl rfl)).1, (sN sm3 (.inl rfl)).2, (sN sm3 (.inl rfl)).2, by decide +kernel⟩
          · exact (na al).elim
          · exact (na ⟨z, e1, a1⟩).elim
          · exact (e e').elim
        · rcases hl3 with ⟨n, _⟩ | ⟨_, _, pd, ed, h⟩ | ⟨z, n, x, e1, a1, e2, _⟩ | e'
          · exact (n al).elim
          · exact ⟨pd, _, v, v, ed, h, rfl, (sN sm3 (.inr rfl)).1, (sN sm3 (.inr rfl)).2, (sN sm3 (.inr rfl)).2, by decide +kernel⟩
          · exact (nn n e2).elim
          · exact (e e').elim
        · obtain ⟨z', n', x', e1', a1', e2', ox', nx', lx', pd, ed, h⟩ : ∃ (z : Str) (n : Nat) (x : Str), L = .str z ∧ IsAlpha z ∧ v = .int (n : Int) ∧ Over z x ∧ num z (cs x) = n ∧ x.length ≤ 1 ∧ ∃ p, l = .ref p ∧ H3 p = some (.tup [.str (Str.ofString "gave"), .str x]) := by
            rcases hl3 with ⟨n', _⟩ | ⟨_, nn, _⟩ | h | e'
            · exact (n' ⟨z, e1, a1⟩).elim
            · exact (nn n e2).elim
            · exact h
            · exact (e e').elim
          rw [e1] at e1'
          rw [e2] at e2'
          cases e1'
          have en : n = n' := by
            have := V.int.inj e2'
            omega
          subst en
          have k1 : 1 ≤ (cs z).length := by
            rw [cs_len]
            exact a1.len1
          refine ⟨fun x H5 ox lx nx s5 => val _ H5 s5 ?_, fun ge => ?_⟩
          · have ex : x = x' := cs_ext (num_inj _ _ _ rfl ox ox' (nx.trans nx'.symm))
            subst ex
            exact ⟨pd, _, .str x, .str x, ed, (s4.trans s5) _ _ h, rfl, .inl ⟨rfl, rfl⟩, .inl ⟨rfl, fun y e => by cases e; omega⟩, .inl ⟨rfl, fun y e => by cases e; omega⟩, by decide +kernel⟩
          · exfalso
            have b := (num_geo k1 (cs x').length (cs x') rfl ox').2
            have m := geo_mono (cs z).length (show (cs x').length + 1 ≤ 4001 by rw [cs_len]; omega)
            omega
      · rintro _ H5 ⟨tt, zs, rfl, s5, ht, pz⟩
        obtain ⟨f1, f2, f3⟩ := pz.fit ht
        refine ⟨_, rfl, _, _, rfl, f2, f3, fun b hb => ?_⟩
        have bt : b = true := hb.mpr f1
        subst bt
        exact q H5 (sm3.trans s5)

/-- right, if the lambda tells the pair that is due -/
def tOne [Tabl] {K : PySem.W.Frag} {mg : Str → Option Value} {base : Heap} (T : Txt K mg base) : V → V → V → (XK → Hp → VK → Prop) → Hp → VK → Prop := fun v1 v2 v3 tl H Q => ∃ (b : Bool) (nm : Str), v2 = .bl b ∧ v3 = .str nm ∧ nm.length ≤ 1000000 ∧ Good H ∧ (∃ a, Deep a 7 H v1) ∧
  TellsZ T [.str (if b = true then Str.ofString "gave" else nm), v1] tl H ∧ ∀ H' : Hp, Same H H' → Q (.bl true) H'
theorem passes_one_checked (T : Txt K mg base) {q : Str} (N : List Str) (qual : Str) (sc : Scope) (fX : Addr) (cdX : Value) (A : Around) (outer : List Env) (s0 : Shared) (H0 : Hp) (E : XK) (cdg : Value) :
    ActPasses (cxOf CX0 P w K mg base N qual sc fX cdX A outer s0 H0 E).nox ["value", "good", "error", "action", "due"] "_law_one_checked" (defScope s_one_checked) T.f_one_checked cdg (defBody s_one_checked) "_law_gave" "action" q 12 (tGave T) (tOne T) := by
  intro v1 v2 v3 f c s H Q tl hr pass code h
  refine ⟨_, (pss_cons (ps_set (i := 4) sc_one_checked.nd rfl (.inl rfl) (pe_tup (pa_cons (pv 2) (pa_cons (pv 0) pa_nil))))
      (C8.pss_cut (ps_if (pt_val (pv 1)) (pss_one (ps_set (i := 4) sc_one_checked.nd rfl (.inl rfl) (pe_tup (pa_cons pe_str (pa_cons (pv 0) pa_nil))))) pss_nil)
      (pss_one (ps_ret (pe_call (ok_sameB T) (hr.mono (by first | decide | exact Nat.le_refl _)) (by rfl) T.g_same T.F_same.kp T.b_same .nil pass0 (pa_cons (pass _ _ _) (pa_cons (pv 4) pa_nil))))))), ?_⟩
  obtain ⟨b, nm, rfl, rfl, ln, good, ⟨a, d1⟩, tells, q⟩ := h
  refine ⟨_, rfl, _, rfl, by show 2 ≤ sizeLine; decide, fun p np => ?_⟩
  refine ⟨fun σ' H' => ∃ p2 : Addr, σ' = [some v1, some (.bl b), some (.str nm), some (.ref f), some (.ref p2)] ∧ Same H H' ∧ H' p2 = some (.tup [.str (if b = true then Str.ofString "gave" else nm), v1]), ?_, ?_⟩
  · refine ⟨_, rfl, _, rfl, ?_⟩
    cases b with
    | false => exact iteF ⟨p, rfl, same_new np, upd_same⟩
    | true => exact iteT ⟨_, rfl, by show 2 ≤ sizeLine; decide, fun p2 np2 => ⟨p2, rfl, (same_new np).trans (same_new np2), upd_same⟩⟩
  rintro σ' H' ⟨p2, rfl, sm, hp⟩
  refine ⟨rfl, sm _ _ code, tells H' _ sm fun tt H3 s3 ht => ?_⟩
  have sm3 := sm.trans s3
  have hp3 := s3 _ _ hp
  have lz : (if b = true then Str.ofString "gave" else nm).length ≤ 1000000 := by
    cases b with
    | true => exact (by decide +kernel : (Str.ofString "gave").length ≤ 1000000)
    | false => exact ln
  have d3 : Deep a 8 H3 v1 := (d1.same sm3).le (by decide : 7 ≤ 8)
  have row : ∀ y ∈ [V.str (if b = true then Str.ofString "gave" else nm), v1], DeepN 8 H3 y := fun y m => by
    rcases List.mem_cons.mp m with m | m
    · subst m
      exact .inl ⟨rfl, fun z e => by cases e; exact lz⟩
    · rw [List.mem_singleton.mp m]
      exact d3.toN
  refine ⟨_, rfl, _, _, rfl, .inr ⟨tt, _, rfl, .inr ht, by show 2 ≤ 1000000; decide, row⟩, .inr ⟨p2, _, rfl, .inr hp3, by show 2 ≤ 1000000; decide, row⟩, fun bz hbz => ?_⟩
  have bt : bz = true := hbz.mpr (.inr ⟨tt, p2, _, _, rfl, rfl, .inl ⟨ht, hp3⟩, rfl, by show 2 ≤ 1000000; decide, fun i x y ex ey => ?_⟩)
  · subst bt
    exact q H3 sm3
  · rw [ex] at ey
    cases ey
    rcases List.mem_cons.mp (List.mem_of_getElem? ex) with m | m
    · subst m
      exact .inl ⟨rfl, rfl⟩
    · rw [List.mem_singleton.mp m]
      exact d3.samed

def sp_store (K : PySem.W.Frag) : Sp := fun vs H Q _ => ∃ (a : Addr) (ns : List Int), vs = [.ref a] ∧ SqL K H a (ns.map V.int) ∧ ns.length ≤ 63 ∧
  ∀ (p ca : Addr) (H' : Hp), Same H H' → H p = none → Sto H' p ca → Q (.ref p) H'
theorem ok_store (T : Txt K mg base) : FnOk P w K mg base CX0 (0 + 1) T.f_store T.fd_store ["script"] (sp_store K) := by
  refine T.F_store.ok sc_store (fun vs H Q E h => ?_) (fun cdv A outer s H vs Q E hr h => ?_)
  · obtain ⟨a, ns, rfl, _⟩ := h
    rfl
  · obtain ⟨a, ns, rfl, hS, hl, q⟩ := h
    refine ⟨_, (pss_cons (ps_set (i := 1) sc_store.nd rfl (.inl rfl) pe_int)
      (pss_cons (ps_for PassesOwn.never rfl (pi_list (pv 0)) (pg_name (i := 2) sc_store.nd rfl (.inl rfl)) (pss_one (ps_set (i := 1) sc_store.nd rfl (.inl rfl) (pe_op op_mod (pe_callTy call_int1 (by rfl) T.z_int (by decide +kernel) (pa_cons (pe_op op_add (pe_op op_add (pe_op op_mul (pv 1) pe_int) (pe_op op_mod (pe_callTy call_int1 (by rfl) T.z_int (by decide +kernel) (pa_cons (pv 2) pa_nil)) pe_int)) pe_int) pa_nil)) pe_int))))
      (pss_one (ps_ret (pe_lst (pa_cons (pe_callTy call_list_of (by rfl) T.z_list (by decide +kernel) (pa_cons (pv 0) pa_nil)) (pa_cons pe_int (pa_cons pe_int (pa_cons pe_int (pa_cons (pv 1) pa_nil)))))))))), ?_⟩
    -- seed = 17, the loop
    refine ⟨.ref a, rfl, a, rfl, ⟨_, hS⟩, for_list (K := K) (a := a) (xs := ns.map V.int) (fun i σ H' => ∃ (z : Int) (y : Option V), σ = [some (.ref a), some (.int z), y] ∧ H' = H)
      ⟨17, none, rfl, rfl⟩ (fun i σ H' _ ⟨_, _, _, e⟩ => by rw [e]; exact hS) ?_ ?_⟩
    · rintro i y σ H' hi ⟨z, y0, rfl, rfl⟩
      obtain ⟨n, hn, rfl⟩ : ∃ n, ns[i]? = some n ∧ y = V.int n := by
        rw [List.getElem?_map] at hi
        cases e : ns[i]? with
        | none =>
          rw [e] at hi
          cases hi
        | some n =>
          rw [e] at hi
          exact ⟨n, rfl, (Option.some.inj hi).symm⟩
      exact ⟨_, rfl, _, _, rfl, rfl, .inr ⟨by decide, by decide⟩, _, rfl, .inl ⟨_, rfl, _, _, rfl, rfl, (by show (0 : Int) < 1000003; decide), _, _, rfl, rfl, _, _, rfl, rfl, .inl ⟨_, rfl, _, _, rfl, rfl, (by show (0 : Int) < 2147483647; decide), _, _, rfl, rfl⟩⟩⟩
    · rintro σ H' ⟨z, y0, rfl, rfl⟩
      refine ⟨.ref a, rfl, a, _, rfl, .inl hS, fun c nc => ⟨_, rfl, by show 5 ≤ sizeLine; decide, fun p np => ?_⟩⟩
      have s1 : Same H' (upd H' c (.lst (ns.map V.int))) := same_new nc
      have s2 : Same (upd H' c (.lst (ns.map V.int))) (upd (upd H' c (.lst (ns.map V.int))) p (.lst [.ref c, .int 0, .int 0, .int 0, .int z])) := same_new np
      have ncp : c ≠ p := fun e => by
        rw [← e, upd_same] at np
        cases np
      refine q p c _ (s1.trans s2) (s1.free np) ⟨ns, 0, 0, 0, z, upd_same, ?_, Int.le_refl 0, ncp⟩
      rw [upd_ne ncp, upd_same]

/-- a text of letters of z, of at most n signs -/
def sp_word (_ : PySem.W.Frag) : Sp := fun vs H Q _ => ∃ (a ca : Addr) (z : Str) (n : Int), vs = [.ref a, .str z, .int n] ∧ Sto H a ca ∧ 0 < z.length ∧ z.length ≤ 1000000 ∧ n ≤ 100000 ∧
  ∀ (v : Str) (H' : Hp), Over z v → (v.length : Int) ≤ (if n < 0 then 0 else n) → But a H H' → Sto H' a ca → Q (.str v) H'
theorem ok_word (T : Txt K mg base) : FnOk P w K mg base CX0 (3 + 1) T.f_word T.fd_word ["store", "letters", "limit"] (sp_word K) := by
  refine T.F_word.ok sc_word (fun vs H Q E h => ?_) (fun cdv A outer s H vs Q E hr h => ?_)
  · obtain ⟨a, ca, z, n, rfl, _⟩ := h
    rfl
  · obtain ⟨a, ca, z, n, rfl, S, hz0, hz1, hn, q⟩ := h
    refine ⟨_, (pss_cons (ps_set (i := 3) sc_word.nd rfl (.inl rfl) (pe_call (ok_take T) (hr.mono (by first | decide | exact Nat.le_refl _)) (by rfl) T.g_take T.F_take.kp T.b_take .nil pass0 (pa_cons (pv 0) (pa_cons pe_int pa_nil))))
      (pss_cons (ps_if (PW.pt (pw_or (pt_cmpR op_eq (pv 3) pe_int (nomark _)) (pw_or1 (pt_cmpR op_lt (pv 2) pe_int (nomark _))))) (pss_one (ps_ret pe_str)) pss_nil)
      (pss_cons (ps_if (pt_cmpR op_eq (pv 3) pe_int (nomark _)) (pss_one (ps_ret (pe_op op_rep_str (pe_call (ok_pick T) (hr.mono (by first | decide | exact Nat.le_refl _)) (by rfl) T.g_pick T.F_pick.kp T.b_pick .nil pass0 (pa_cons (pv 0) (pa_cons (pv 1) pa_nil))) (pv 2)))) pss_nil)
      (pss_cons (ps_set (i := 4) sc_word.nd rfl (.inl rfl) (pv 2))
      (pss_cons (ps_if (pt_cmpR op_gt (pv 3) pe_int (nomark _)) (pss_one (ps_set (i := 4) sc_word.nd rfl (.inl rfl) (pe_call (ok_take T) (hr.mono (by first | decide | exact Nat.le_refl _)) (by rfl) T.g_take T.F_take.kp T.b_take .nil pass0 (pa_cons (pv 0) (pa_cons (pe_op op_add (pv 2) pe_int) pa_nil))))) pss_nil)
      (pss_cons (ps_if (pt_cmpR op_eq (pv 3) pe_int (nomark _)) (pss_one (ps_ret (pe_op op_rep_str (pe_call (ok_pick T) (hr.mono (by first | decide | exact Nat.le_refl _)) (by rfl) T.g_pick T.F_pick.kp T.b_pick .nil pass0 (pa_cons (pv 0) (pa_cons (pv 1) pa_nil))) (pv 4)))) pss_nil)
      (pss_one (ps_ret (pe_join pe_str (pe_lc (own := [("k", 5)]) (g := gName 5) rfl sc_word.nd (pi_range1 (by rfl) T.z_range (pa_cons (pv 4) pa_nil)) (blkOk_by (N := ["store", "letters", "limit", "draw", "size", "k"]) (sc := defScope s_word) (by decide +kernel)) (fun _ _ _ _ _ => pg_name (i := 5) sc_word.nd rfl (Or.inl rfl)) (fun _ _ _ _ _ => pts_nil) (fun _ _ _ _ _ => (pe_call (ok_pick T) (hr.mono (by first | decide | exact Nat.le_refl _)) (by rfl) T.g_pick T.F_pick.kp T.b_pick .nil pass0 (pa_cons (pv 0) (pa_cons (pv 1) pa_nil)))))))))))))), ?_⟩
    refine ⟨_, rfl, a, ca, 9, rfl, S, by decide, fun d H1 d0 d1 B1 S1 => ?_⟩
    have h0 : ((0 : Nat) : Int) ≤ (if n < 0 then 0 else n) := by split <;> omega
    refine ⟨_, rfl, rfl, _, rfl, ite2 (fun g1 => ?_) (fun g1 => ?_)⟩
    · exact q _ _ Over.empty h0 B1 S1
    · refine ⟨_, rfl, _, _, rfl, rfl, _, rfl, ite2 (fun g2 => ?_) (fun g2 => ?_)⟩
      · exact q _ _ Over.empty h0 B1 S1
      · have g2' : 1 ≤ n := by
          have := of_decide_eq_false (Bool.not_eq_true _ ▸ g2 : decide (n < 1) = false)
          omega
        have hn0 : (if n < 0 then (0 : Int) else n) = n := if_neg (by omega)
        rw [hn0] at q
        have one_ok : ∀ (c : Nat) (k : Int) (H' : Hp), c ∈ cs z → 0 ≤ k → k ≤ n → But a H H' → Sto H' a ca → Q (.str (Txt.mul ⟨#[c]⟩ k)) H' := fun c k H' hc k0 k1 B S => by
          refine q _ _ (Over.one hc).mul ?_ B S
          rw [length_mul]
          show ((1 * k.toNat : Nat) : Int) ≤ n
          omega
        refine ⟨_, rfl, rfl, _, rfl, ite2 (fun g3 => ?_) (fun g3 => ?_)⟩
        · refine ⟨_, rfl, _, rfl, a, ca, S1, .inl ⟨z, rfl, hz0, hz1, fun c H2 hc B2 S2 => ⟨_, rfl, _, n, rfl, rfl, by show 1 ≤ 16; decide, by omega, by omega, one_ok c n H2 hc (by omega) (Int.le_refl _) (B1.trans B2) S2⟩⟩⟩
        · refine ⟨_, rfl, _, rfl, _, _, rfl, rfl, _, rfl, ite2 (fun g4 => ?_) (fun g4 => ?_)⟩
          · refine ⟨_, rfl, _, rfl, _, _, rfl, rfl, a, ca, _, rfl, S1, by show n + 1 < 1073741824; omega, fun k H2 k0 k1 B2 S2 => ?_⟩
            have k2 : k < n + 1 ∨ k = 0 := k1
            have kn : k ≤ n := by omega
            refine ⟨_, rfl, rfl, _, rfl, ite2 (fun g5 => ?_) (fun g5 => ?_)⟩
            · exact ⟨_, rfl, _, rfl, a, ca, S2, .inl ⟨z, rfl, hz0, hz1, fun c H3 hc B3 S3 => ⟨_, rfl, _, k, rfl, rfl, by show 1 ≤ 16; decide, by omega, by omega, one_ok c k H3 hc k0 kn ((B1.trans B2).trans B3) S3⟩⟩⟩
            · refine ⟨⟨_, rfl⟩, _, rfl, k, rfl, by show -(2 ^ 62 : Int) ≤ k; omega, by show k < 2 ^ 62; omega, fun D hD => ?_⟩
              have hDa : D ≠ a := (S2.ne hD).1
              refine lc_range (lo := 0) (n := (k).toNat) (fun i H' => ∃ ys : List Str, H' D = some (.lst (ys.map V.str)) ∧ ys.length = i ∧ (∀ y ∈ ys, ∃ c ∈ cs z, y = ⟨#[c]⟩) ∧ But a H H' ∧ Sto H' a ca) ?_ ?_ ?_
              · exact ⟨[], upd_same, rfl, fun y m => absurd m List.not_mem_nil, (B1.trans B2).trans (But.new hD), S2.new hD⟩
              · rintro i H' hi ⟨ys, h1, h2, h3, B, S'⟩
                refine ⟨rfl, ?_⟩
                refine ⟨_, rfl, _, rfl, a, ca, S', .inl ⟨z, rfl, hz0, hz1, fun c H3 hc B3 S3 => ?_⟩⟩
                refine ⟨_, B3 _ _ hDa h1, ?_, ys ++ [⟨#[c]⟩], ?_, ?_, ?_, ?_, ?_⟩
                · rw [List.length_map, h2]
                  have hi' : i < (k).toNat := hi
                  exact Nat.lt_of_lt_of_le (by omega : i < 1000000) (by decide)
                · rw [upd_same, List.map_append]
                  rfl
                · rw [List.length_append, h2]
                  rfl
                · intro y m
                  rcases List.mem_append.mp m with m | m
                  · exact h3 y m
                  · exact ⟨c, hc, List.mem_singleton.mp m⟩
                · exact (B1.trans B2).grown hD (B.trans B3) (B3 _ _ hDa h1)
                · exact S3.put (S2.ne hD)
              · rintro H' ⟨ys, h1, h2, h3, B, S'⟩
                have sum1 : (ys.map (·.length)).sum = ys.length := by
                  clear h1 h2
                  induction ys with
                  | nil => rfl
                  | cons y r ih =>
                    obtain ⟨c, _, rfl⟩ := h3 y List.mem_cons_self
                    rw [List.map_cons, List.sum_cons, ih fun x m => h3 x (List.mem_cons_of_mem _ m), List.length_cons]
                    show 1 + r.length = r.length + 1
                    omega
                refine ⟨_, _, ys, rfl, rfl, .inl (.inl (.inl h1)), ?_, q _ _ ?_ ?_ B S'⟩
                · rw [sum1]
                  show ys.length + ys.length * 0 ≤ 16777216
                  omega
                · intro c m
                  rw [cs_join0, List.mem_flatten] at m
                  obtain ⟨l, hl, hc⟩ := m
                  obtain ⟨y, hy, rfl⟩ := List.mem_map.mp hl
                  obtain ⟨c', hc', rfl⟩ := h3 y hy
                  rw [cs_one] at hc
                  rw [List.mem_singleton.mp hc]
                  exact hc'
                · have e : (Txt.join (Str.ofString "") ys).length = ys.length := by
                    rw [← cs_len, cs_join0, List.length_flatten, List.map_map]
                    rw [← sum1]
                    congr 1
                  rw [e]
                  omega
          · have nn : 0 ≤ n := by omega
            refine ⟨_, rfl, rfl, _, rfl, ite2 (fun g5 => ?_) (fun g5 => ?_)⟩
            · exact ⟨_, rfl, _, rfl, a, ca, S1, .inl ⟨z, rfl, hz0, hz1, fun c H3 hc B3 S3 => ⟨_, rfl, _, n, rfl, rfl, by show 1 ≤ 16; decide, by omega, by omega, one_ok c n H3 hc nn (Int.le_refl _) (B1.trans B3) S3⟩⟩⟩
            · refine ⟨⟨_, rfl⟩, _, rfl, n, rfl, by show -(2 ^ 62 : Int) ≤ n; omega, by show n < 2 ^ 62; omega, fun D hD => ?_⟩
              have hDa : D ≠ a := (S1.ne hD).1
              refine lc_range (lo := 0) (n := (n).toNat) (fun i H' => ∃ ys : List Str, H' D = some (.lst (ys.map V.str)) ∧ ys.length = i ∧ (∀ y ∈ ys, ∃ c ∈ cs z, y = ⟨#[c]⟩) ∧ But a H H' ∧ Sto H' a ca) ?_ ?_ ?_
              · exact ⟨[], upd_same, rfl, fun y m => absurd m List.not_mem_nil, B1.trans (But.new hD), S1.new hD⟩
              · rintro i H' hi ⟨ys, h1, h2, h3, B, S'⟩
                refine ⟨rfl, ?_⟩
                refine ⟨_, rfl, _, rfl, a, ca, S', .inl ⟨z, rfl, hz0, hz1, fun c H3 hc B3 S3 => ?_⟩⟩
                refine ⟨_, B3 _ _ hDa h1, ?_, ys ++ [⟨#[c]⟩], ?_, ?_, ?_, ?_, ?_⟩
                · rw [List.length_map, h2]
                  have hi' : i < (n).toNat := hi
                  exact Nat.lt_of_lt_of_le (by omega : i < 1000000) (by decide)
                · rw [upd_same, List.map_append]
                  rfl
                · rw [List.length_append, h2]
                  rfl
                · intro y m
                  rcases List.mem_append.mp m with m | m
                  · exact h3 y m
                  · exact ⟨c, hc, List.mem_singleton.mp m⟩
                · exact B1.grown hD (B.trans B3) (B3 _ _ hDa h1)
                · exact S3.put (S1.ne hD)
              · rintro H' ⟨ys, h1, h2, h3, B, S'⟩
                have sum1 : (ys.map (·.length)).sum = ys.length := by
                  clear h1 h2
                  induction ys with
                  | nil => rfl
                  | cons y r ih =>
                    obtain ⟨c, _, rfl⟩ := h3 y List.mem_cons_self
                    rw [List.map_cons, List.sum_cons, ih fun x m => h3 x (List.mem_cons_of_mem _ m), List.length_cons]
                    show 1 + r.length = r.length + 1
                    omega
                refine ⟨_, _, ys, rfl, rfl, .inl (.inl (.inl h1)), ?_, q _ _ ?_ ?_ B S'⟩
                · rw [sum1]
                  show ys.length + ys.length * 0 ≤ 16777216
                  omega
                · intro c m
                  rw [cs_join0, List.mem_flatten] at m
                  obtain ⟨l, hl, hc⟩ := m
                  obtain ⟨y, hy, rfl⟩ := List.mem_map.mp hl
                  obtain ⟨c', hc', rfl⟩ := h3 y hy
                  rw [cs_one] at hc
                  rw [List.mem_singleton.mp hc]
                  exact hc'
                · have e : (Txt.join (Str.ofString "") ys).length = ys.length := by
                    rw [← cs_len, cs_join0, List.length_flatten, List.map_map]
                    rw [← sum1]
                    congr 1
                  rw [e]
                  omega

/-- a text of letters of z, of n signs -/
def sp_long_word (_ : PySem.W.Frag) : Sp := fun vs H Q _ => ∃ (a ca : Addr) (z : Str) (n : Int), vs = [.ref a, .str z, .int n] ∧ Sto H a ca ∧ 0 < z.length ∧ z.length ≤ 1000000 ∧ -100000 ≤ n ∧ n ≤ 100000 ∧
  ∀ (v : Str) (H' : Hp), Over z v → (v.length : Int) = (if n < 1 then 0 else n) → But a H H' → Sto H' a ca → Q (.str v) H'
theorem ok_long_word (T : Txt K mg base) : FnOk P w K mg base CX0 (4 + 1) T.f_long_word T.fd_long_word ["store", "letters", "size"] (sp_long_word K) := by
  refine T.F_long_word.ok sc_long_word (fun vs H Q E h => ?_) (fun cdv A outer s H vs Q E hr h => ?_)
  · obtain ⟨a, ca, z, n, rfl, _⟩ := h
    rfl
  · obtain ⟨a, ca, z, n, rfl, S, hz0, hz1, hn0, hn, q⟩ := h
    refine ⟨_, (pss_cons (ps_set (i := 3) sc_long_word.nd rfl (.inl rfl) (pe_op op_add_str (pe_call (ok_pick T) (hr.mono (by first | decide | exact Nat.le_refl _)) (by rfl) T.g_pick T.F_pick.kp T.b_pick .nil pass0 (pa_cons (pv 0) (pa_cons (pv 1) pa_nil))) (pe_call (ok_word T) (hr.mono (by first | decide | exact Nat.le_refl _)) (by rfl) T.g_word T.F_word.kp T.b_word .nil pass0 (pa_cons (pv 0) (pa_cons (pv 1) (pa_cons pe_int pa_nil))))))
      (pss_cons (ps_set (i := 4) sc_long_word.nd rfl (.inl rfl) (pe_slice sl_str (pe_op op_rep_str (pv 3) (pv 2)) po_none (po_some (pv 2))))
      (pss_cons (ps_if (pt_cmpR op_lt (pv 2) pe_int (nomark _)) (pss_one (ps_ret pe_str)) pss_nil)
      (pss_cons (ps_set (i := 5) sc_long_word.nd rfl (.inl rfl) (pe_call (ok_between T) (hr.mono (by first | decide | exact Nat.le_refl _)) (by rfl) T.g_between T.F_between.kp T.b_between .nil pass0 (pa_cons (pv 0) (pa_cons pe_int (pa_cons (pe_op op_sub (pv 2) pe_int) pa_nil)))))
      (pss_one (ps_ret (pe_op op_add_str (pe_op op_add_str (pe_slice sl_str (pv 4) po_none (po_some (pv 5))) (pe_call (ok_pick T) (hr.mono (by first | decide | exact Nat.le_refl _)) (by rfl) T.g_pick T.F_pick.kp T.b_pick .nil pass0 (pa_cons (pv 0) (pa_cons (pv 1) pa_nil)))) (pe_slice sl_str (pv 4) (po_some (pe_op op_add (pv 5) pe_int)) po_none)))))))), ?_⟩
    refine ⟨_, rfl, _, rfl, a, ca, S, .inl ⟨z, rfl, hz0, hz1, fun c H1 hc B1 S1 => ?_⟩⟩
    refine ⟨_, rfl, _, rfl, a, ca, z, 4, rfl, S1, hz0, hz1, by decide, fun u H2 hu lu B2 S2 => ?_⟩
    have lu' : u.length ≤ 4 := by
      have : ((u.length : Nat) : Int) ≤ 4 := lu
      omega
    have lp : ((⟨#[c]⟩ : Str) ++ u).length = 1 + u.length := length_app _ _
    have hp : Over z ((⟨#[c]⟩ : Str) ++ u) := (Over.one hc).app hu
    refine ⟨_, _, rfl, rfl, small_text (by show 1 + u.length ≤ 1000000; omega), ?_⟩
    refine ⟨_, rfl, _, rfl, _, n, rfl, rfl, by rw [lp]; omega, by omega, by omega, _, rfl, _, rfl, _, rfl, ?_, ?_⟩
    · rw [length_mul, lp]
      refine small_text ?_
      have : (1 + u.length) * n.toNat ≤ 5 * n.toNat := Nat.mul_le_mul_right _ (by omega)
      omega
    · refine ⟨_, rfl, _, _, rfl, rfl, _, rfl, ite2 (fun g1 => ?_) (fun g1 => ?_)⟩
      · have g1' : n < 1 := of_decide_eq_true g1
        refine q _ _ Over.empty ?_ (B1.trans B2) S2
        rw [if_pos g1']
        rfl
      · have g1' : ¬ n < 1 := fun z => g1 (decide_eq_true z)
        obtain ⟨k, rfl⟩ := Int.eq_ofNat_of_zero_le (by omega : 0 ≤ n)
        rw [if_neg g1'] at q
        have lw : (cutS (Txt.mul ((⟨#[c]⟩ : Str) ++ u) (k : Int)) none (some (k : Int))).length = k := by
          rw [← cs_len, cs_upto, List.length_take, cs_len, length_mul, lp]
          have : 1 * k ≤ (1 + u.length) * (k : Int).toNat := Nat.mul_le_mul (by omega) (by omega)
          omega
        have ow : Over z (cutS (Txt.mul ((⟨#[c]⟩ : Str) ++ u) (k : Int)) none (some (k : Int))) := hp.mul.cut
        refine ⟨_, rfl, _, rfl, _, _, rfl, rfl, a, ca, 0, _, rfl, S2, by show (k : Int) - 1 - 0 < 1000000000; omega, fun r H3 r0 r1 B3 S3 => ?_⟩
        have r1' : r ≤ (k : Int) - 1 ∨ r = 0 := r1
        obtain ⟨j, rfl⟩ := Int.eq_ofNat_of_zero_le r0
        refine ⟨_, rfl, _, rfl, _, rfl, _, rfl, small_text (by rw [lw]; omega), _, rfl, _, rfl, a, ca, S3, .inl ⟨z, rfl, hz0, hz1, fun d H4 hd B4 S4 => ?_⟩⟩
        have l1 : (cutS (cutS (Txt.mul ((⟨#[c]⟩ : Str) ++ u) (k : Int)) none (some (k : Int))) none (some (j : Int))).length = j := by
          rw [← cs_len, cs_upto, List.length_take, cs_len, lw]
          omega
        have l2 : (cutS (cutS (Txt.mul ((⟨#[c]⟩ : Str) ++ u) (k : Int)) none (some (k : Int))) (some ((j : Int) + 1)) none).length = k - (j + 1) := by
          rw [← cs_len, show ((j : Int) + 1) = ((j + 1 : Nat) : Int) from rfl, cs_from, List.length_drop, cs_len, lw]
        refine ⟨_, _, rfl, rfl, small_text ?_, _, rfl, _, rfl, _, _, rfl, rfl, _, rfl, _, rfl, small_text (by rw [lw]; omega), _, _, rfl, rfl, small_text ?_, ?_⟩
        · show _ + 1 ≤ 1000000
          rw [l1]
          omega
        · rw [length_app, l1, l2]
          show j + 1 + (k - (j + 1)) ≤ 1000000
          omega
        · refine q _ _ ((ow.cut.app (Over.one hd)).app ow.cut) ?_ (((B1.trans B2).trans B3).trans B4) S4
          rw [length_app, length_app, l1, l2]
          show ((j + 1 + (k - (j + 1)) : Nat) : Int) = (k : Int)
          omega

def sp_stranger (_ : PySem.W.Frag) : Sp := fun vs H Q _ => ∃ (a ca : Addr) (z : Str), vs = [.ref a, .str z] ∧ Sto H a ca ∧ z.length ≤ 4 ∧ ∀ (c : Nat) (H' : Hp), But a H H' → Sto H' a ca → Q (.str ⟨#[c]⟩) H'
theorem ok_stranger (T : Txt K mg base) : FnOk P w K mg base CX0 (3 + 1) T.f_stranger T.fd_stranger ["store", "letters"] (sp_stranger K) := by
  refine T.F_stranger.ok sc_stranger (fun vs H Q E h => ?_) (fun cdv A outer s H vs Q E hr h => ?_)
  · obtain ⟨a, ca, z, rfl, _⟩ := h
    rfl
  · obtain ⟨a, ca, z, rfl, S, lz, q⟩ := h
    refine ⟨_, (pss_one (ps_ret (pe_call (ok_pick T) (hr.mono (by first | decide | exact Nat.le_refl _)) (by rfl) T.g_pick T.F_pick.kp T.b_pick .nil pass0 (pa_cons (pv 0) (pa_cons (pe_lc (own := [("x", 2)]) (g := gName 2) rfl sc_stranger.nd (pi_str pe_str) (blkOk_by (N := ["store", "letters", "x"]) (sc := defScope s_stranger) (by decide +kernel)) (fun _ _ _ _ _ => pg_name (i := 2) sc_stranger.nd rfl (Or.inl rfl)) (fun _ _ _ _ _ => (pts_one (pt_cmpR op_notIn_sign (pv 2) (pv 1) rfl))) (fun _ _ _ _ _ => (pv 2))) pa_nil))))), ?_⟩
    have nD' : ∀ {D : Addr}, H D = none → D ≠ a ∧ D ≠ ca := fun h => S.ne h
    refine ⟨_, rfl, abc, rfl, fun D nD => ?_⟩
    refine lc_it walk_str (fun n H' => H' D = some (.lst ((((cs abc).take n).filter (fun c => !decide (c ∈ cs z))).map fun c => V.str ⟨#[c]⟩)) ∧ Same H H' ∧ Sto H' a ca) ⟨by rw [upd_same, List.take_zero]; rfl, same_new nD, S.new nD⟩ (fun _ _ _ _ => trivial) ?_ ?_
    · rintro n v H4 H5 hn ⟨h1, h2, h3⟩ ⟨rfl, c, hc, rfl⟩
      have hc' : (cs abc)[n]? = some c := by
        show abc.cps.toList[n]? = some c
        rw [Array.getElem?_toList]
        exact hc
      refine ⟨rfl, _, rfl, _, rfl, c, z, rfl, rfl, _, rfl, ?_⟩
      by_cases m : c ∈ cs z
      · refine iteN (by rw [decide_eq_true (show c ∈ z.cps.toList from m)]; rfl) ⟨?_, h2, h3⟩
        rw [h1, List.take_add_one, hc', List.filter_append, List.map_append]
        simp [m]
      · refine iteC (by rw [decide_eq_false (show ¬ c ∈ z.cps.toList from m)]; rfl) ⟨_, rfl, _, h1, ?_, ?_, ?_, ?_⟩
        · rw [List.length_map]
          refine Nat.lt_of_le_of_lt (List.length_filter_le _ _) (Nat.lt_of_le_of_lt (m := 1000000) ?_ (by decide))
          rw [List.length_take]
          have : (cs abc).length = 26 := by decide +kernel
          omega
        · rw [upd_same, List.take_add_one, hc', List.filter_append, List.map_append]
          simp [m]
        · exact (Same.refl H).grown nD h2 h1
        · exact h3.put (nD' nD)
    · rintro H' ⟨h1, h2, h3⟩
      have e26 : List.take abc.cps.size (cs abc) = cs abc := List.take_of_length_le (Nat.le_of_eq (cs_len abc))
      rw [e26] at h1
      have more : 0 < (((cs abc).filter (fun c => !decide (c ∈ cs z))).map fun c => V.str ⟨#[c]⟩).length := by
        rw [List.length_map]
        refine Nat.pos_of_ne_zero fun e => ?_
        have nil := List.length_eq_zero_iff.mp e
        have l : (cs abc).length ≤ (cs z).length := nodup_len _ _ (abc_asc.imp fun h => Nat.ne_of_lt h) fun c m => by
          have := List.filter_eq_nil_iff.mp nil c m
          simpa using this
        have : (cs abc).length = 26 := by decide +kernel
        rw [cs_len z] at l
        omega
      refine ⟨a, ca, h3, .inr ⟨D, _, rfl, (nD' nD).1, h1, more, ?_, fun v H2 m B2 S2 => ?_⟩⟩
      · rw [List.length_map]
        refine Nat.le_trans (List.length_filter_le _ _) ?_
        have : (cs abc).length = 26 := by decide +kernel
        omega
      · obtain ⟨c, _, rfl⟩ := List.mem_map.mp m
        exact q c H2 ((But.same h2).trans B2) S2

def sp_not_word (_ : PySem.W.Frag) : Sp := fun vs H Q _ => ∃ (a ca : Addr) (z : Str), vs = [.ref a, .str z] ∧ Sto H a ca ∧ IsAlpha z ∧ ∀ (v : V) (H' : Hp), Deep a 2 H' v → But a H H' → Sto H' a ca → Q v H'
theorem ok_not_word (T : Txt K mg base) : FnOk P w K mg base CX0 (4 + 1) T.f_not_word T.fd_not_word ["store", "letters"] (sp_not_word K) := by
  refine T.F_not_word.ok sc_not_word (fun vs H Q E h => ?_) (fun cdv A outer s H vs Q E hr h => ?_)
  · obtain ⟨a, ca, z, rfl, _⟩ := h
    rfl
  · obtain ⟨a, ca, z, rfl, S, al, q⟩ := h
    refine ⟨_, (pss_cons (ps_set (i := 2) sc_not_word.nd rfl (.inl rfl) (pe_call (ok_word T) (hr.mono (by first | decide | exact Nat.le_refl _)) (by rfl) T.g_word T.F_word.kp T.b_word .nil pass0 (pa_cons (pv 0) (pa_cons (pv 1) (pa_cons pe_int pa_nil)))))
      (pss_cons (ps_set (i := 3) sc_not_word.nd rfl (.inl rfl) (pe_call (ok_take T) (hr.mono (by first | decide | exact Nat.le_refl _)) (by rfl) T.g_take T.F_take.kp T.b_take .nil pass0 (pa_cons (pv 0) (pa_cons (pe_op op_add (pe_callB call_len_str (by rfl) T.z_len PySem.boot_len (pa_cons (pv 2) pa_nil)) pe_int) pa_nil))))
      (pss_cons (ps_set (i := 4) sc_not_word.nd rfl (.inl rfl) (pe_call (ok_take T) (hr.mono (by first | decide | exact Nat.le_refl _)) (by rfl) T.g_take T.F_take.kp T.b_take .nil pass0 (pa_cons (pv 0) (pa_cons pe_int pa_nil))))
      (pss_cons (ps_if (pt_cmpR op_lt (pv 4) pe_int (nomark _)) (pss_one (ps_ret (pe_op op_add_str (pe_op op_add_str (pe_slice sl_str (pv 2) po_none (po_some (pv 3))) (pe_call (ok_stranger T) (hr.mono (by first | decide | exact Nat.le_refl _)) (by rfl) T.g_stranger T.F_stranger.kp T.b_stranger .nil pass0 (pa_cons (pv 0) (pa_cons (pv 1) pa_nil)))) (pe_slice sl_str (pv 2) (po_some (pv 3)) po_none)))) pss_nil)
      (pss_cons (ps_if (pt_cmpR op_eq (pv 4) pe_int (nomark _)) (pss_one (ps_ret (pe_op op_add_str (pe_op op_add_str (pe_slice sl_str (pv 2) po_none (po_some (pv 3))) (pe_upper (pe_ix ix_str (pv 1) pe_int (fun _ _ => rfl)))) (pe_slice sl_str (pv 2) (po_some (pv 3)) po_none)))) pss_nil)
      (pss_cons (ps_if (pt_cmpR op_eq (pv 4) pe_int (nomark _)) (pss_one (ps_ret (pe_op op_add_str (pe_op op_add_str (pe_slice sl_str (pv 2) po_none (po_some (pv 3))) (pe_call (ok_pick T) (hr.mono (by first | decide | exact Nat.le_refl _)) (by rfl) T.g_pick T.F_pick.kp T.b_pick .nil pass0 (pa_cons (pv 0) (pa_cons pe_str pa_nil)))) (pe_slice sl_str (pv 2) (po_some (pv 3)) po_none)))) pss_nil)
      (pss_cons (ps_if (pt_cmpR op_eq (pv 4) pe_int (nomark _)) (pss_one (ps_ret pe_str)) pss_nil)
      (pss_cons (ps_if (pt_cmpR op_eq (pv 4) pe_int (nomark _)) (pss_one (ps_ret (pe_op op_add_str (pv 2) pe_str))) pss_nil)
      (pss_cons (ps_if (pt_cmpR op_eq (pv 4) pe_int (nomark _)) (pss_one (ps_ret (pe_lc (own := [("x", 5)]) (g := gName 5) rfl sc_not_word.nd (pi_str (pv 2)) (blkOk_by (N := ["store", "letters", "good", "at", "draw", "x"]) (sc := defScope s_not_word) (by decide +kernel)) (fun _ _ _ _ _ => pg_name (i := 5) sc_not_word.nd rfl (Or.inl rfl)) (fun _ _ _ _ _ => pts_nil) (fun _ _ _ _ _ => (pv 5))))) pss_nil)
      (pss_cons (ps_if (pt_cmpR op_eq (pv 4) pe_int (nomark _)) (pss_one (ps_ret (pe_callTy call_tuple_of (by rfl) T.z_tuple (by decide +kernel) (pa_cons (pe_lc (own := [("x", 5)]) (g := gName 5) rfl sc_not_word.nd (pi_str (pv 2)) (blkOk_by (N := ["store", "letters", "good", "at", "draw", "x"]) (sc := defScope s_not_word) (by decide +kernel)) (fun _ _ _ _ _ => pg_name (i := 5) sc_not_word.nd rfl (Or.inl rfl)) (fun _ _ _ _ _ => pts_nil) (fun _ _ _ _ _ => (pv 5))) pa_nil)))) pss_nil)
      (pss_one (ps_ret (pe_call (ok_no_text T) (hr.mono (by first | decide | exact Nat.le_refl _)) (by rfl) T.g_no_text T.F_no_text.kp T.b_no_text .nil pass0 (pa_cons (pv 0) pa_nil)))))))))))))), ?_⟩
    have z0 : 0 < z.length := al.len1
    refine ⟨_, rfl, _, rfl, a, ca, z, 5, rfl, S, z0, al.small, by decide, fun x H1 ox lx B1 S1 => ?_⟩
    have lx5 : x.length ≤ 5 := by
      have : (x.length : Int) ≤ 5 := lx
      omega
    have sx : x.length ≤ sizeLine := small_text (by omega)
    have sd : ∀ {n : Nat} {Hx : Hp}, ∀ y ∈ (cs x).map signV, Deep a n Hx y := fun y m => by
      obtain ⟨c, _, rfl⟩ := List.mem_map.mp m
      exact deep_str (by show 1 ≤ 1000000; decide)
    refine ⟨_, rfl, _, rfl, x, rfl, sx, _, _, rfl, rfl, a, ca, _, rfl, S1, by show (x.length : Int) + 1 < 1073741824; omega, fun e H2 e0 e1 B2 S2 => ?_⟩
    refine ⟨_, rfl, a, ca, 12, rfl, S2, by decide, fun d H3 d0 d1 B3 S3 => ?_⟩
    have B03 := (B1.trans B2).trans B3
    have c1 := cut_len x none (some e)
    have c2 := cut_len x (some e) none
    have piece : ∀ (y : Str) (H' : Hp), y.length ≤ 3 → But a H H' → Sto H' a ca → Q (.str ((cutS x none (some e) ++ y) ++ cutS x (some e) none)) H' := fun y H' ly B S => by
      refine q _ _ (deep_str ?_) B S
      rw [length_app, length_app]
      omega
    have fits : ∀ y : Str, y.length ≤ 3 → (cutS x none (some e)).length + y.length ≤ sizeLine ∧ (cutS x none (some e) ++ y).length + (cutS x (some e) none).length ≤ sizeLine := fun y ly => by
      rw [length_app]
      exact ⟨small_text (by omega), small_text (by omega)⟩
    refine ⟨_, rfl, _, _, rfl, rfl, _, rfl, ite2 (fun _ => ?_) (fun _ => ?_)⟩
    · refine ⟨_, rfl, _, rfl, _, rfl, x, rfl, sx, _, rfl, _, rfl, a, ca, z, rfl, S3, al.len4, fun c H4 B4 S4 => ?_⟩
      exact ⟨_, _, rfl, rfl, (fits _ (by show 1 ≤ 3; decide)).1, _, rfl, _, rfl, _, rfl, x, rfl, sx, _, _, rfl, rfl, (fits _ (by show 1 ≤ 3; decide)).2, piece _ _ (by show 1 ≤ 3; decide) (B03.trans B4) S4⟩
    refine ⟨_, rfl, rfl, _, rfl, ite2 (fun _ => ?_) (fun _ => ?_)⟩
    · have hz : 0 < (cs z).length := by
        rw [cs_len]
        exact z0
      have up : (Txt.upper ⟨#[(cs z)[0]]⟩).length ≤ 3 := up3 _
      refine ⟨_, rfl, _, rfl, _, rfl, x, rfl, sx, _, rfl, z, _, (cs z)[0], rfl, rfl, small_text al.small, atI_nat (j := 0) (List.getElem?_eq_getElem hz), ⟨_, rfl⟩, _, rfl, rfl, by show 1 ≤ 5592405; decide, ?_⟩
      exact ⟨_, _, rfl, rfl, (fits _ up).1, _, rfl, _, rfl, _, rfl, x, rfl, sx, _, _, rfl, rfl, (fits _ up).2, piece _ _ up B03 S3⟩
    refine ⟨_, rfl, rfl, _, rfl, ite2 (fun _ => ?_) (fun _ => ?_)⟩
    · refine ⟨_, rfl, _, rfl, _, rfl, x, rfl, sx, _, rfl, a, ca, S3, .inl ⟨_, rfl, by decide +kernel, by decide +kernel, fun c H4 hc B4 S4 => ?_⟩⟩
      exact ⟨_, _, rfl, rfl, (fits _ (by show 1 ≤ 3; decide)).1, _, rfl, _, rfl, _, rfl, x, rfl, sx, _, _, rfl, rfl, (fits _ (by show 1 ≤ 3; decide)).2, piece _ _ (by show 1 ≤ 3; decide) (B03.trans B4) S4⟩
    refine ⟨_, rfl, rfl, _, rfl, ite2 (fun _ => ?_) (fun _ => ?_)⟩
    · exact q _ _ (deep_str (by decide +kernel)) B03 S3
    refine ⟨_, rfl, rfl, _, rfl, ite2 (fun _ => ?_) (fun _ => ?_)⟩
    · refine ⟨_, rfl, _, _, rfl, rfl, ?_, q _ _ (deep_str ?_) B03 S3⟩
      · exact small_text (show x.length + 1 ≤ 1000000 by omega)
      · rw [length_app]
        show x.length + 1 ≤ 1000000
        omega
    refine ⟨_, rfl, rfl, _, rfl, ite2 (fun _ => ?_) (fun _ => ?_)⟩
    · refine ⟨_, rfl, x, rfl, fun D nD => ?_⟩
      have nDa : D ≠ a := (S3.ne nD).1
      refine lc_it walk_str (fun n H' => H' D = some (.lst (((cs x).take n).map signV)) ∧ Same H3 H') ⟨by rw [upd_same, List.take_zero]; rfl, same_new nD⟩ (fun _ _ _ _ => trivial) ?_ ?_
      · rintro n v H4 H5 hn ⟨h1, h2⟩ ⟨rfl, c, hc, rfl⟩
        have hc' : (cs x)[n]? = some c := by
          show x.cps.toList[n]? = some c
          rw [Array.getElem?_toList]
          exact hc
        refine ⟨rfl, _, rfl, _, h1, ?_, ?_, ?_⟩
        · rw [List.length_map, List.length_take, cs_len]
          exact Nat.lt_of_le_of_lt (Nat.min_le_right _ _) (Nat.lt_of_le_of_lt (m := 1000000) (by omega) (by decide))
        · rw [upd_same, List.take_add_one, hc', List.map_append]
          rfl
        · exact (Same.refl H3).grown nD h2 h1
      · rintro H' ⟨h1, h2⟩
        have e : List.take x.cps.size (cs x) = cs x := List.take_of_length_le (Nat.le_of_eq (cs_len x))
        rw [e] at h1
        exact q _ _ (deep_lst nDa h1 (by rw [List.length_map, cs_len]; omega) sd) (B03.trans (But.same h2)) (S3.same h2)
    refine ⟨_, rfl, rfl, _, rfl, ite2 (fun _ => ?_) (fun _ => ?_)⟩
    · refine ⟨_, rfl, x, rfl, fun D nD => ?_⟩
      refine lc_it walk_str (fun n H' => H' D = some (.lst (((cs x).take n).map signV)) ∧ Same H3 H') ⟨by rw [upd_same, List.take_zero]; rfl, same_new nD⟩ (fun _ _ _ _ => trivial) ?_ ?_
      · rintro n v H4 H5 hn ⟨h1, h2⟩ ⟨rfl, c, hc, rfl⟩
        have hc' : (cs x)[n]? = some c := by
          show x.cps.toList[n]? = some c
          rw [Array.getElem?_toList]
          exact hc
        refine ⟨rfl, _, rfl, _, h1, ?_, ?_, ?_⟩
        · rw [List.length_map, List.length_take, cs_len]
          exact Nat.lt_of_le_of_lt (Nat.min_le_right _ _) (Nat.lt_of_le_of_lt (m := 1000000) (by omega) (by decide))
        · rw [upd_same, List.take_add_one, hc', List.map_append]
          rfl
        · exact (Same.refl H3).grown nD h2 h1
      · rintro H' ⟨h1, h2⟩
        have e : List.take x.cps.size (cs x) = cs x := List.take_of_length_le (Nat.le_of_eq (cs_len x))
        rw [e] at h1
        refine ⟨D, _, rfl, .inl ⟨.inl (.inl h1), fun p np => ?_⟩⟩
        exact q _ _ (deep_tup ((S3.same h2).ne np).1 upd_same (by rw [List.length_map, cs_len]; omega) sd) ((B03.trans (But.same h2)).trans (But.new np)) ((S3.same h2).new np)
    exact ⟨_, rfl, a, ca, rfl, S3, fun v H4 dv B4 S4 => q _ _ dv (B03.trans B4) S4⟩

def sp_not_read (_ : PySem.W.Frag) : Sp := fun vs H Q _ => ∃ (a ca : Addr) (z : Str), vs = [.ref a, .str z] ∧ Sto H a ca ∧ IsAlpha z ∧ ∀ (v : V) (H' : Hp), Deep a 2 H' v → But a H H' → Sto H' a ca → Q v H'
theorem ok_not_read (T : Txt K mg base) : FnOk P w K mg base CX0 (5 + 1) T.f_not_read T.fd_not_read ["store", "letters"] (sp_not_read K) := by
  refine T.F_not_read.ok sc_not_read (fun vs H Q E h => ?_) (fun cdv A outer s H vs Q E hr h => ?_)
  · obtain ⟨a, ca, z, rfl, _⟩ := h
    rfl
  · obtain ⟨a, ca, z, rfl, S, al, q⟩ := h
    refine ⟨_, (pss_cons (ps_if (pt_cmpR op_eq (pe_call (ok_take T) (hr.mono (by first | decide | exact Nat.le_refl _)) (by rfl) T.g_take T.F_take.kp T.b_take .nil pass0 (pa_cons (pv 0) (pa_cons pe_int pa_nil))) pe_int (nomark _)) (pss_one (ps_ret (pe_call (ok_long_word T) (hr.mono (by first | decide | exact Nat.le_refl _)) (by rfl) T.g_long_word T.F_long_word.kp T.b_long_word .nil pass0 (pa_cons (pv 0) (pa_cons (pv 1) (pa_cons (pe_op op_add pe_int (pe_call (ok_take T) (hr.mono (by first | decide | exact Nat.le_refl _)) (by rfl) T.g_take T.F_take.kp T.b_take .nil pass0 (pa_cons (pv 0) (pa_cons pe_int pa_nil)))) pa_nil)))))) pss_nil)
      (pss_one (ps_ret (pe_call (ok_not_word T) (hr.mono (by first | decide | exact Nat.le_refl _)) (by rfl) T.g_not_word T.F_not_word.kp T.b_not_word .nil pass0 (pa_cons (pv 0) (pa_cons (pv 1) pa_nil)))))), ?_⟩
    have z0 : 0 < z.length := al.len1
    refine ⟨_, rfl, a, ca, 6, rfl, S, by decide, fun d H1 d0 d1 B1 S1 => ?_⟩
    refine ⟨rfl, _, rfl, ite2 (fun _ => ?_) (fun _ => ?_)⟩
    · refine ⟨_, rfl, _, rfl, _, rfl, a, ca, 8, rfl, S1, by decide, fun e H2 e0 e1 B2 S2 => ?_⟩
      refine ⟨_, _, rfl, rfl, a, ca, z, _, rfl, S2, z0, al.small, by omega, by omega, fun x H3 ox lx B3 S3 => q _ _ (deep_str ?_) ((B1.trans B2).trans B3) S3⟩
      have : (x.length : Int) ≤ 10000 := by
        rw [lx]
        split <;> omega
      omega
    · exact ⟨_, rfl, _, rfl, a, ca, z, rfl, S1, al, fun x H2 dx B2 S2 => q _ _ dx (B1.trans B2) S2⟩

def sp_word_values (_ : PySem.W.Frag) : Sp := fun vs H Q _ => ∃ (a ca : Addr) (z : Str), vs = [.ref a, .str z] ∧ Sto H a ca ∧ IsAlpha z ∧ ∀ (l : Addr) (xs : List V) (H' : Hp), l ≠ a → H' l = some (.lst xs) → 0 < xs.length → xs.length ≤ 5 → (∀ x ∈ xs, Deep a 6 H' x) → But a H H' → Sto H' a ca → Q (.ref l) H'
theorem ok_word_values (T : Txt K mg base) : FnOk P w K mg base CX0 (6 + 1) T.f_word_values T.fd_word_values ["store", "letters"] (sp_word_values K) := by
  refine T.F_word_values.ok sc_word_values (fun vs H Q E h => ?_) (fun cdv A outer s H vs Q E hr h => ?_)
  · obtain ⟨a, ca, z, rfl, _⟩ := h
    rfl
  · obtain ⟨a, ca, z, rfl, S, al, q⟩ := h
    refine ⟨_, (pss_cons (ps_set (i := 2) sc_word_values.nd rfl (.inl rfl) (pe_lst (pa_cons (pe_call (ok_word T) (hr.mono (by first | decide | exact Nat.le_refl _)) (by rfl) T.g_word T.F_word.kp T.b_word .nil pass0 (pa_cons (pv 0) (pa_cons (pv 1) (pa_cons pe_int pa_nil)))) (pa_cons (pe_call (ok_not_read T) (hr.mono (by first | decide | exact Nat.le_refl _)) (by rfl) T.g_not_read T.F_not_read.kp T.b_not_read .nil pass0 (pa_cons (pv 0) (pa_cons (pv 1) pa_nil))) (pa_cons (pe_call (ok_any T) (hr.mono (by first | decide | exact Nat.le_refl _)) (by rfl) T.g_any T.F_any.kp T.b_any .nil pass0 (pa_cons (pv 0) pa_nil)) pa_nil)))))
      (C8.pss_cut (ps_if (pt_cmpR op_eq (pe_call (ok_take T) (hr.mono (by first | decide | exact Nat.le_refl _)) (by rfl) T.g_take T.F_take.kp T.b_take .nil pass0 (pa_cons (pv 0) (pa_cons pe_int pa_nil))) pe_int (nomark _)) (pss_one (ps_expr (pe_bm PySem.F.plainAttrs_list PySem.F.slot_list_append PySem.F.type_list_append mt_append (pv 2) (pa_cons (pe_call (ok_long_word T) (hr.mono (by first | decide | exact Nat.le_refl _)) (by rfl) T.g_long_word T.F_long_word.kp T.b_long_word .nil pass0 (pa_cons (pv 0) (pa_cons (pv 1) (pa_cons pe_int pa_nil)))) pa_nil)))) pss_nil)
      (pss_one (ps_ret (pe_op op_cat (pv 2) (pe_lst (pa_cons (pe_call (ok_pick T) (hr.mono (by first | decide | exact Nat.le_refl _)) (by rfl) T.g_pick T.F_pick.kp T.b_pick .nil pass0 (pa_cons (pv 0) (pa_cons (pe_lst (pa_cons pe_str (pa_cons pe_str (pa_cons (pe_call (ok_word T) (hr.mono (by first | decide | exact Nat.le_refl _)) (by rfl) T.g_word T.F_word.kp T.b_word .nil pass0 (pa_cons (pv 0) (pa_cons (pv 1) (pa_cons pe_int pa_nil)))) pa_nil)))) pa_nil))) pa_nil))))))), ?_⟩
    have z0 : 0 < z.length := al.len1
    refine ⟨_, rfl, _, rfl, a, ca, z, 6, rfl, S, z0, al.small, by decide, fun x H1 ox lx B1 S1 => ?_⟩
    have lx6 : x.length ≤ 6 := by
      have : (x.length : Int) ≤ 6 := lx
      omega
    refine ⟨_, rfl, _, rfl, a, ca, z, rfl, S1, al, fun v2 H2 d2 B2 S2 => ?_⟩
    refine ⟨_, rfl, a, ca, rfl, S2, fun v3 H3 d3 B3 S3 => ?_⟩
    refine ⟨by show 3 ≤ sizeLine; decide, fun l nl => ?_⟩
    have la : l ≠ a := (S3.ne nl).1
    have S4 := S3.new (o := .lst [.str x, v2, v3]) nl
    have hl := upd_same (H := H3) (a := l) (o := .lst [.str x, v2, v3])
    have k4 := same_new (o := .lst [.str x, v2, v3]) nl
    have B04 := ((B1.trans B2).trans B3).trans (But.same k4)
    have dd : ∀ y ∈ [V.str x, v2, v3], Deep a 6 (upd H3 l (.lst [.str x, v2, v3])) y := List.forall_mem_cons.mpr ⟨deep_str (by omega), List.forall_mem_cons.mpr ⟨((d2.but B3).same k4).le (by decide), List.forall_mem_cons.mpr ⟨d3.same k4, fun y m => absurd m List.not_mem_nil⟩⟩⟩
    generalize upd H3 l (.lst [.str x, v2, v3]) = H4 at *
    refine ⟨fun σ' H' => σ' = [some (.ref a), some (.str z), some (.ref l)] ∧ ∃ xs : List V, H' l = some (.lst xs) ∧ 3 ≤ xs.length ∧ xs.length ≤ 4 ∧ (∀ y ∈ xs, Deep a 6 H' y) ∧ But a H H' ∧ Sto H' a ca, ?_, ?_⟩
    · refine ⟨_, rfl, a, ca, 20, rfl, S4, by decide, fun g H5 g0 g1 B5 S5 => ?_⟩
      have hl5 := B5 _ _ la hl
      have dd5 : ∀ y ∈ [V.str x, v2, v3], Deep a 6 H5 y := fun y m => (dd y m).but B5
      have B05 := B04.trans B5
      refine ⟨rfl, _, rfl, ite2 (fun _ => ?_) (fun _ => ⟨rfl, _, hl5, by show 3 ≤ 3; decide, by show 3 ≤ 4; decide, dd5, B05, S5⟩)⟩
      refine ⟨_, rfl, .inl ⟨rfl, _, .inl (.inl hl5)⟩, _, rfl, _, rfl, a, ca, z, 4000, rfl, S5, z0, al.small, by decide, by decide, fun u H6 ou lu B6 S6 => ?_⟩
      have hl6 := B6 _ _ la hl5
      have ul : u.length ≤ 4000 := by
        have : (u.length : Int) = 4000 := lu
        omega
      refine ⟨l, _, _, rfl, rfl, hl6, by show 3 < sizeLine; decide, ?_⟩
      have old : H3 l = none := nl
      have B36 : But a H3 H6 := (But.same k4).trans (B5.trans B6)
      have B37 : But a H3 (upd H6 l (.lst ([V.str x, v2, v3] ++ [V.str u]))) := (But.refl H3).grown nl B36 hl6
      refine ⟨rfl, _, upd_same, by show 3 ≤ 4; decide, by show 4 ≤ 4; decide, ?_, ((B1.trans B2).trans B3).trans B37, S6.put (S3.ne nl)⟩
      refine List.forall_mem_cons.mpr ⟨deep_str (by omega), List.forall_mem_cons.mpr ⟨((d2.but B3).but B37).le (by decide), List.forall_mem_cons.mpr ⟨d3.but B37, List.forall_mem_cons.mpr ⟨deep_str (by omega), fun y m => absurd m List.not_mem_nil⟩⟩⟩⟩
    · rintro σ' H' ⟨rfl, xs, hx, l3, l4, dx, B, S'⟩
      refine ⟨_, rfl, _, rfl, _, rfl, _, rfl, a, ca, z, 6, rfl, S', z0, al.small, by decide, fun w1 H8 ow lw B8 S8 => ⟨by show 3 ≤ sizeLine; decide, fun p np => ?_⟩⟩
      have lw6 : w1.length ≤ 6 := by
        have : (w1.length : Int) ≤ 6 := lw
        omega
      refine ⟨a, ca, S8.new np, .inr ⟨p, _, rfl, (S8.ne np).1, upd_same, by show 0 < 3; decide, by show 3 ≤ 1000000; decide, fun u H9 mu B9 S9 => ?_⟩⟩
      have lu : ∀ Hx : Hp, Deep a 6 Hx u := fun Hx => by
        have all : ∀ y ∈ [V.str (Str.ofString "-"), V.str (Str.ofString ""), V.str w1], Deep a 6 Hx y := List.forall_mem_cons.mpr ⟨deep_str (by decide +kernel), List.forall_mem_cons.mpr ⟨deep_str (by decide +kernel), List.forall_mem_cons.mpr ⟨deep_str (by omega), fun y m => absurd m List.not_mem_nil⟩⟩⟩
        exact all u mu
      have B9' : But a H' H9 := B8.trans ((But.new np).trans B9)
      refine ⟨by show 1 ≤ sizeLine; decide, fun p2 n2 => ?_⟩
      have k2 := same_new (o := .lst [u]) n2
      refine ⟨l, p2, xs, [u], rfl, rfl, k2 _ _ (B9' _ _ la hx), upd_same, small_text (by show xs.length + 1 ≤ 1000000; omega), fun r nr => ?_⟩
      have k3 := same_new (o := .lst (xs ++ [u])) nr
      have Bf := B9'.trans (But.same (k2.trans k3))
      refine q r _ _ ((S9.new n2).ne nr).1 upd_same (by rw [List.length_append]; show 0 < xs.length + 1; omega) (by rw [List.length_append]; show xs.length + 1 ≤ 5; omega) (fun y m => ?_) (B.trans Bf) ((S9.new n2).new nr)
      rcases List.mem_append.mp m with m | m
      · exact (dx y m).but Bf
      · rw [List.mem_singleton.mp m]
        exact lu _

def sp_lw_is_word (_ : PySem.W.Frag) : Sp := fun vs H Q _ => ∃ (z : Str) (v : V), vs = [.str z, v] ∧ Shal H v ∧ ∀ b : Bool, (b = true ↔ ∃ x, v = .str x ∧ Over z x) → Q (.bl b) H
theorem ok_lw_is_word (T : Txt K mg base) : FnOk P w K mg base CX0 (0 + 1) T.f_lw_is_word T.fd_lw_is_word ["letters", "value"] (sp_lw_is_word K) := by
  refine T.F_lw_is_word.ok sc_lw_is_word (fun vs H Q E h => ?_) (fun cdv A outer s H vs Q E hr h => ?_)
  · obtain ⟨z, x, rfl, _⟩ := h
    rfl
  · obtain ⟨z, v, rfl, sv, q⟩ := h
    refine ⟨_, (pss_cons (ps_if (pt_not (pt_val (pe_callB call_isi (by rfl) T.z_isinstance (by decide +kernel) (pa_cons (pv 1) (pa_cons (pe_bltn (v := .ty "str") (by rfl) T.z_str (by decide +kernel) rfl) pa_nil))))) (pss_one (ps_ret pe_bl)) pss_nil)
      (pss_cons (ps_for PassesOwn.never rfl (pi_str (pv 1)) (pg_name (i := 2) sc_lw_is_word.nd rfl (.inl rfl)) (pss_one (ps_if (pt_cmpR op_notIn_sign (pv 2) (pv 0) rfl) (pss_one (ps_ret pe_bl)) pss_nil)))
      (pss_one (ps_ret pe_bl)))), ?_⟩
    obtain ⟨ty, hty, kt⟩ := isi_str (K := K) sv
    refine ⟨_, rfl, _, _, _, _, _, rfl, .ty _, hty, kt, _, rfl, ?_⟩
    cases hs : isStr v with
    | false =>
      refine iteC rfl (q false ⟨fun h => (by cases h), fun ⟨x, e, _⟩ => ?_⟩)
      rw [e] at hs
      cases hs
    | true =>
    obtain ⟨x, rfl⟩ := isStr_of hs
    refine iteF ?_
    refine ⟨_, rfl, x, rfl, for_str (fun i σ H' => ∃ y, σ = [some (.str z), some (.str x), y] ∧ H' = H ∧ ∀ c ∈ (cs x).take i, c ∈ cs z) ⟨none, rfl, rfl, fun c m => by simp at m⟩ ?_ ?_⟩
    · rintro i c σ H' hc ⟨y, rfl, rfl, al⟩
      refine ⟨_, rfl, _, rfl, c, z, rfl, rfl, _, rfl, ?_⟩
      by_cases m : c ∈ cs z
      · refine iteN (by rw [decide_eq_true (show c ∈ z.cps.toList from m)]; rfl) ⟨_, rfl, rfl, fun d hd => ?_⟩
        rw [List.take_add_one, hc] at hd
        rcases List.mem_append.mp hd with h | h
        · exact al d h
        · have : d = c := by simpa using h
          rw [this]
          exact m
      · refine iteC (by rw [decide_eq_false (show ¬ c ∈ z.cps.toList from m)]; rfl) (q false ⟨fun h => (by cases h), fun ⟨x', e, o⟩ => ?_⟩)
        cases e
        exact (m (o c (List.mem_of_getElem? hc))).elim
    · rintro σ H' ⟨y, rfl, rfl, al⟩
      rw [List.take_length] at al
      exact q true ⟨fun _ => ⟨x, rfl, al⟩, fun _ => rfl⟩

/-- what is due of a word: the pair of a text and a value -/
def DueW (L v : V) : List V → Prop := fun xs => (¬ AlphaV L ∧ xs = [.str (Str.ofString "BadLetters"), L]) ∨ (AlphaV L ∧ ¬ WordV L v 4000 ∧ xs = [.str (Str.ofString "BadWord"), v]) ∨ (WordV L v 4000 ∧ xs = [.str (Str.ofString "gave"), v])
def sp_word_due (_ : PySem.W.Frag) : Sp := fun vs H Q _ => ∃ L v : V, vs = [L, v] ∧ Shal H L ∧ Shal H v ∧ ∀ (xs : List V) (p : Addr), DueW L v xs → H p = none → Q (.ref p) (upd H p (.tup xs))
theorem ok_word_due (T : Txt K mg base) : FnOk P w K mg base CX0 (1 + 1) T.f_word_due T.fd_word_due ["letters", "value"] (sp_word_due K) := by
  refine T.F_word_due.ok sc_word_due (fun vs H Q E h => ?_) (fun cdv A outer s H vs Q E hr h => ?_)
  · obtain ⟨L, v, rfl, _⟩ := h
    rfl
  · obtain ⟨L, v, rfl, sL, sv, q⟩ := h
    refine ⟨_, (pss_cons (ps_if (pt_not (pt_val (pe_call (ok_good_letters T) (hr.mono (by first | decide | exact Nat.le_refl _)) (by rfl) T.g_good_letters T.F_good_letters.kp T.b_good_letters .nil pass0 (pa_cons (pv 0) pa_nil)))) (pss_one (ps_ret (pe_tup (pa_cons pe_str (pa_cons (pv 0) pa_nil))))) pss_nil)
      (pss_cons (ps_if (PW.pt (pw_or (pt_not (pt_val (pe_call (ok_lw_is_word T) (hr.mono (by first | decide | exact Nat.le_refl _)) (by rfl) T.g_lw_is_word T.F_lw_is_word.kp T.b_lw_is_word .nil pass0 (pa_cons (pv 0) (pa_cons (pv 1) pa_nil))))) (pw_or1 (pt_cmpR op_gt (pe_callB call_len_str (by rfl) T.z_len PySem.boot_len (pa_cons (pv 1) pa_nil)) pe_int (nomark _))))) (pss_one (ps_ret (pe_tup (pa_cons pe_str (pa_cons (pv 1) pa_nil))))) pss_nil)
      (pss_one (ps_ret (pe_tup (pa_cons pe_str (pa_cons (pv 1) pa_nil))))))), ?_⟩
    refine ⟨_, rfl, L, rfl, sL, fun b hb => ⟨_, rfl, ?_⟩⟩
    cases b with
    | false =>
      refine iteC rfl ⟨_, rfl, by show 2 ≤ sizeLine; decide, fun p np => q _ p (.inl ⟨fun h => (by cases hb.mpr h), rfl⟩) np⟩
    | true =>
    have al := hb.mp rfl
    obtain ⟨z, rfl, ha⟩ := al
    refine iteF ?_
    refine ⟨_, rfl, _, rfl, z, v, rfl, sv, fun b hb2 => ⟨_, rfl, ?_⟩⟩
    cases b with
    | false =>
      refine iteC rfl (iteC rfl ⟨_, rfl, by show 2 ≤ sizeLine; decide, fun p np => q _ p (.inr (.inl ⟨⟨z, rfl, ha⟩, fun ⟨z', x, e1, e2, a, o, l⟩ => ?_, rfl⟩)) np⟩)
      cases e1
      cases hb2.mpr ⟨x, e2, o⟩
    | true =>
    obtain ⟨x, rfl, ov⟩ := hb2.mp rfl
    refine iteF ?_
    refine ⟨_, rfl, x, rfl, small_text sv.text, _, _, rfl, rfl, _, rfl, ite2 (fun g => ?_) (fun g => ?_)⟩
    · refine ⟨_, rfl, by show 2 ≤ sizeLine; decide, fun p np => q _ p (.inr (.inl ⟨⟨z, rfl, ha⟩, fun ⟨z', y, e1, e2, a, o, l⟩ => ?_, rfl⟩)) np⟩
      cases e2
      have := of_decide_eq_true g
      omega
    · refine ⟨_, rfl, by show 2 ≤ sizeLine; decide, fun p np => q _ p (.inr (.inr ⟨⟨z, x, rfl, rfl, ha, ov, ?_⟩, rfl⟩)) np⟩
      have : ¬ ((4000 : Int) < (x.length : Int)) := fun h => g (decide_eq_true h)
      omega

def sp_is_word (_ : PySem.W.Frag) : Sp := fun vs H Q _ => ∃ L v : V, vs = [L, v] ∧ Shal H L ∧ Shal H v ∧ Good H ∧ ∀ (b : Bool) (H' : Hp), (b = true ↔ ∃ z x, L = .str z ∧ v = .str x ∧ IsAlpha z ∧ Over z x) → Same H H' → Q (.bl b) H'
theorem ok_is_word (T : Txt K mg base) : FnOk P w K mg base CX0 (1 + 1) T.f_is_word T.fd_is_word ["letters", "value"] (sp_is_word K) := by
  refine T.F_is_word.ok sc_is_word (fun vs H Q E h => ?_) (fun A outer s H vs Q E hr h => ?_)
  · obtain ⟨z, x, rfl, _⟩ := h
    rfl
  · obtain ⟨L, v, rfl, sL, sv, good, q⟩ := h
    refine ⟨_, (pss_cons (ps_if (PW.pt (pw_or (pt_not (pt_val (pe_call (ok_is_letters T) (hr.mono (by first | decide | exact Nat.le_refl _)) (by rfl) T.g_is_letters T.F_is_letters.kp T.b_is_letters .nil pass0 (pa_cons (pv 0) pa_nil)))) (pw_or1 (pt_not (pt_val (pe_callB call_isi (by rfl) T.z_isinstance (by decide +kernel) (pa_cons (pv 1) (pa_cons (pe_bltn (v := .ty "str") (by rfl) T.z_str (by decide +kernel) rfl) pa_nil)))))))) (pss_one (ps_ret pe_bl)) pss_nil)
      (pss_one (ps_ret (GQ.pe_allV hr T.z_all (i := 0) rfl T.B_is_word T.m_is_word rfl (GQ.genB_by (sc := defScope s_is_word) (by decide +kernel)) (pv 1))))), ?_⟩
    refine ⟨_, rfl, L, rfl, sL, good, fun b H1 hb s1 => ?_⟩
    cases b with
    | false =>
      refine ⟨_, rfl, iteC rfl (iteC rfl ?_)⟩
      refine q false _ ⟨fun h => (by cases h), fun ⟨z, x, e1, e2, al, _⟩ => ?_⟩ s1
      have := hb.mpr ⟨z, e1, al⟩
      cases this
    | true =>
      obtain ⟨z, rfl, al⟩ := hb.mp rfl
      refine ⟨_, rfl, iteF ?_⟩
      obtain ⟨ty, hty, kt⟩ := isi_str (K := K) (sv.same s1)
      refine ⟨_, rfl, _, _, _, _, _, rfl, .ty _, hty, kt, _, rfl, ?_⟩
      cases hs : isStr v with
      | false =>
        refine iteC rfl ?_
        refine q false _ ⟨fun h => (by cases h), fun ⟨z, x, e1, e2, al, _⟩ => ?_⟩ s1
        rw [e2] at hs
        cases hs
      | true =>
      obtain ⟨x, rfl⟩ := isStr_of hs
      refine iteF ?_
      refine ⟨_, rfl, x, z, rfl, rfl, s1.good good, fun H2 s2 => ?_⟩
      refine q _ _ ?_ (s1.trans s2)
      rw [List.all_eq_true]
      constructor
      · exact fun h => ⟨z, x, rfl, rfl, al, fun c hc => of_decide_eq_true (h c hc)⟩
      · rintro ⟨z', x', e1, e2, _, h⟩ c hc
        cases e1
        cases e2
        exact decide_eq_true (h c hc)

def sp_is_word_up_to (_ : PySem.W.Frag) : Sp := fun vs H Q _ => ∃ (L v : V) (m : Int), vs = [L, v, .int m] ∧ Shal H L ∧ Shal H v ∧ Good H ∧ ∀ (b : Bool) (H' : Hp), (b = true ↔ ∃ z x, L = .str z ∧ v = .str x ∧ IsAlpha z ∧ Over z x ∧ (x.length : Int) ≤ m) → Same H H' → Q (.bl b) H'
theorem ok_is_word_up_to (T : Txt K mg base) : FnOk P w K mg base CX0 (2 + 1) T.f_is_word_up_to T.fd_is_word_up_to ["letters", "value", "most"] (sp_is_word_up_to K) := by
  refine T.F_is_word_up_to.ok sc_is_word_up_to (fun vs H Q E h => ?_) (fun cdv A outer s H vs Q E hr h => ?_)
  · obtain ⟨z, x, m, rfl, _⟩ := h
    rfl
  · obtain ⟨L, v, m, rfl, sL, sv, good, q⟩ := h
    refine ⟨_, (pss_one (ps_ret (pe_and (pe_callB call_isi (by rfl) T.z_isinstance (by decide +kernel) (pa_cons (pv 1) (pa_cons (pe_bltn (v := .ty "str") (by rfl) T.z_str (by decide +kernel) rfl) pa_nil))) (pe_and (pe_cmpR op_le (pe_callB call_len_str (by rfl) T.z_len PySem.boot_len (pa_cons (pv 1) pa_nil)) (pv 2) (nomark _)) (pe_one (pe_call (ok_is_word T) (hr.mono (by first | decide | exact Nat.le_refl _)) (by rfl) T.g_is_word T.F_is_word.kp T.b_is_word .nil pass0 (pa_cons (pv 0) (pa_cons (pv 1) pa_nil)))))))), ?_⟩
    obtain ⟨ty, hty, kt⟩ := isi_str (K := K) sv
    refine ⟨_, rfl, _, _, _, _, _, rfl, .ty _, hty, kt, _, rfl, ?_⟩
    cases hs : isStr v with
    | false =>
      refine iteF (q false _ ⟨fun h => (by cases h), fun ⟨z, x, e1, e2, _⟩ => ?_⟩ (.refl H))
      rw [e2] at hs
      cases hs
    | true =>
    obtain ⟨x, rfl⟩ := isStr_of hs
    refine iteT ?_
    refine ⟨_, rfl, x, rfl, small_text sv.text, _, rfl, _, _, rfl, rfl, _, rfl, ite2 (fun g => ?_) (fun g => ?_)⟩
    · refine ⟨_, rfl, _, rfl, L, .str x, rfl, sL, sv, good, fun b H1 hb s1 => q b H1 ?_ s1⟩
      rw [hb]
      exact ⟨fun ⟨z, y, e1, e2, al, o⟩ => ⟨z, y, e1, e2, al, o, by cases e2; exact of_decide_eq_true g⟩, fun ⟨z, y, e1, e2, al, o, _⟩ => ⟨z, y, e1, e2, al, o⟩⟩
    · refine q _ _ ⟨fun h => (by simp at h), fun ⟨z, y, e1, e2, al, o, l⟩ => absurd (decide_eq_true ?_) g⟩ (.refl H)
      cases e2
      exact l

def sp_check_word [Tabl] (C D : Addr) (_ : PySem.W.Frag) : Sp := fun vs H Q E => ∃ L v : V, vs = [L, v] ∧ Shal H L ∧ Shal H v ∧ Good H ∧ (WordV L v 4000 → ∀ H' : Hp, Same H H' → Q v H') ∧ (¬ AlphaV L → Raised H C L E) ∧ (AlphaV L → ¬ WordV L v 4000 → Raised H D v E)
theorem ok_check_word (T : Txt K mg base) : FnOk P w K mg base (L2.CX P w) (6 + 1) T.f_check_word T.fd_check_word ["letters", "word"] (sp_check_word T.C_BadLetters T.C_BadWord K) := by
  refine T.F_check_word.okX sc_check_word (fun vs H Q E h => ?_) (fun cdv A outer s H vs Q E hr h => ?_)
  · obtain ⟨z, x, rfl, _⟩ := h
    rfl
  · obtain ⟨L, v, rfl, sL, sv, good, q, qa, qw⟩ := h
    refine ⟨_, (pss_cons (ps_expr (pe_callS (ok_check_letters T) (hr.mono (by first | decide | exact Nat.le_refl _)) (by rfl) T.g_check_letters T.F_check_letters.kp T.b_check_letters (fun σ => passAt (takes_of rfl rfl rfl rfl) σ) (pa_cons (pv 0) pa_nil)))
      (pss_cons (ps_if (pt_not (pt_val (pe_call (ok_is_word_up_to T) (hr.mono (by first | decide | exact Nat.le_refl _)) (by rfl) T.g_is_word_up_to T.F_is_word_up_to.kp T.b_is_word_up_to .nil pass0 (pa_cons (pv 0) (pa_cons (pv 1) (pa_cons (pe_glob (v := .int 4000) (by rfl) T.c_MAX_READ ⟨_, rfl⟩) pa_nil)))))) (pss_one (ps_raise rfl (takes_of rfl rfl rfl rfl) (pmk_err1 T.E_BadWord T.iI_BadWord T.tI_BadWord T.no_BadWord_value (ok_init1 (k := 0) (p4 := ⟨0, 0, 0, 0⟩) T.FI_BadWord sci_BadWord (by decide) rfl) (hr.mono (by first | decide | exact Nat.le_refl _)) T.bI_BadWord pass0 (pa_cons (pv 1) pa_nil)))) pss_nil)
      (pss_one (ps_ret (pv 1))))), ?_⟩
    refine ⟨_, rfl, L, rfl, sL, good, fun al H1 s1 => ?_, qa⟩
    refine ⟨_, rfl, _, rfl, L, v, 4000, rfl, sL.same s1, sv.same s1, s1.good good, fun b H2 hb s2 => ⟨_, rfl, ?_⟩⟩
    have e : b = true ↔ WordV L v 4000 := by
      rw [hb]
      exact ⟨fun ⟨z, x, e1, e2, a, o, l⟩ => ⟨z, x, e1, e2, a, o, by omega⟩, fun ⟨z, x, e1, e2, a, o, l⟩ => ⟨z, x, e1, e2, a, o, by omega⟩⟩
    cases b with
    | true => exact iteF ⟨_, rfl, q (e.mp rfl) H2 (s1.trans s2)⟩
    | false => exact iteC rfl ⟨_, rfl, _, rfl, fun d nd => qw al (fun h => by cases e.mpr h) d H2 _ (s1.trans s2) nd rfl⟩

/-- the word that is shown so, over an alphabet; else None -/
def sp_shown_word (_ : PySem.W.Frag) : Sp := fun vs H Q _ => ∃ (L v : V) (m : Int), vs = [L, v, .int m] ∧ Shal H L ∧ Shal H v ∧ Good H ∧ (v = .str (Str.ofString "-") → Q (.str (Str.ofString "")) H) ∧
  (v ≠ .str (Str.ofString "-") → v = .str (Str.ofString "") → Q .non H) ∧
  (v ≠ .str (Str.ofString "-") → v ≠ .str (Str.ofString "") → ∀ H' : Hp, Same H H' → ((∃ z x, L = .str z ∧ v = .str x ∧ IsAlpha z ∧ Over z x ∧ (x.length : Int) ≤ m) → Q v H') ∧ ((¬ ∃ z x, L = .str z ∧ v = .str x ∧ IsAlpha z ∧ Over z x ∧ (x.length : Int) ≤ m) → Q .non H'))
theorem ok_shown_word (T : Txt K mg base) : FnOk P w K mg base CX0 (3 + 1) T.f_shown_word T.fd_shown_word ["letters", "text", "most"] (sp_shown_word K) := by
  refine T.F_shown_word.ok sc_shown_word (fun vs H Q E h => ?_) (fun cdv A outer s H vs Q E hr h => ?_)
  · obtain ⟨L, v, m, rfl, _⟩ := h
    rfl
  · obtain ⟨L, v, m, rfl, sL, sv, good, q1, q2, q3⟩ := h
    refine ⟨_, (pss_cons (ps_if (pt_cmpR (op_eqStr (Nat.lt_of_le_of_lt (Nat.le_add_right _ 64) hr.units)) (pv 1) pe_str (nomark _)) (pss_one (ps_ret pe_str)) pss_nil)
      (pss_cons (ps_if (PW.pt (pw_or (pt_cmpR (op_eqStr (Nat.lt_of_le_of_lt (Nat.le_add_right _ 64) hr.units)) (pv 1) pe_str (nomark _)) (pw_or1 (pt_not (pt_val (pe_call (ok_is_word_up_to T) (hr.mono (by first | decide | exact Nat.le_refl _)) (by rfl) T.g_is_word_up_to T.F_is_word_up_to.kp T.b_is_word_up_to .nil pass0 (pa_cons (pv 0) (pa_cons (pv 1) (pa_cons (pv 2) pa_nil))))))))) (pss_one (ps_ret pe_non)) pss_nil)
      (pss_one (ps_ret (pv 1))))), ?_⟩
    refine ⟨_, rfl, _, rfl, sv, _, rfl, ite2 (fun g => ?_) (fun g => ?_)⟩
    · exact q1 (of_decide_eq_true g)
    have n1 : v ≠ .str (Str.ofString "-") := fun e => g (decide_eq_true e)
    refine ⟨_, rfl, _, rfl, sv, _, rfl, ite2 (fun g => ?_) (fun g => ?_)⟩
    · exact iteC rfl (q2 n1 (of_decide_eq_true g))
    have n2 : v ≠ .str (Str.ofString "") := fun e => g (decide_eq_true e)
    refine ⟨_, rfl, _, rfl, _, rfl, L, v, m, rfl, sL, sv, good, fun b H1 hb s1 => ⟨_, rfl, ?_⟩⟩
    have q := q3 n1 n2 H1 s1
    cases b with
    | true => exact iteF ⟨_, rfl, q.1 (hb.mp rfl)⟩
    | false => exact iteC rfl (q.2 fun h => by cases hb.mpr h)

def sp_read_shown [Tabl] (C D : Addr) (_ : PySem.W.Frag) : Sp := fun vs H Q E => ∃ L v : V, vs = [L, v] ∧ Shal H L ∧ Shal H v ∧ Good H ∧ (¬ AlphaV L → Raised H C L E) ∧
  (AlphaV L → v = .str (Str.ofString "-") → ∀ H' : Hp, Same H H' → Q (.str (Str.ofString "")) H') ∧
  (AlphaV L → v ≠ .str (Str.ofString "-") → WordV L v 4000 → v ≠ .str (Str.ofString "") → ∀ H' : Hp, Same H H' → Q v H') ∧
  (AlphaV L → v ≠ .str (Str.ofString "-") → (¬ WordV L v 4000 ∨ v = .str (Str.ofString "")) → Raised H D v E)
theorem ok_read_shown (T : Txt K mg base) : FnOk P w K mg base (L2.CX P w) (6 + 1) T.f_read_shown T.fd_read_shown ["letters", "text"] (sp_read_shown T.C_BadLetters T.C_BadWord K) := by
  refine T.F_read_shown.okX sc_read_shown (fun vs H Q E h => ?_) (fun cdv A outer s H vs Q E hr h => ?_)
  · obtain ⟨L, v, rfl, _⟩ := h
    rfl
  · obtain ⟨L, v, rfl, sL, sv, good, qa, q1, q2, q3⟩ := h
    refine ⟨_, (pss_cons (ps_expr (pe_callS (ok_check_letters T) (hr.mono (by first | decide | exact Nat.le_refl _)) (by rfl) T.g_check_letters T.F_check_letters.kp T.b_check_letters (fun σ => passAt (takes_of rfl rfl rfl rfl) σ) (pa_cons (pv 0) pa_nil)))
      (pss_cons (ps_set (i := 2) sc_read_shown.nd rfl (.inl rfl) (pe_call (ok_shown_word T) (hr.mono (by first | decide | exact Nat.le_refl _)) (by rfl) T.g_shown_word T.F_shown_word.kp T.b_shown_word .nil pass0 (pa_cons (pv 0) (pa_cons (pv 1) (pa_cons (pe_glob (v := .int 4000) (by rfl) T.c_MAX_READ ⟨_, rfl⟩) pa_nil)))))
      (pss_cons (ps_if (pt_cmpR op_isN (pv 2) pe_non (nomark _)) (pss_one (ps_raise rfl (takes_of rfl rfl rfl rfl) (pmk_err1 T.E_BadWord T.iI_BadWord T.tI_BadWord T.no_BadWord_value (ok_init1 (k := 0) (p4 := ⟨0, 0, 0, 0⟩) T.FI_BadWord sci_BadWord (by decide) rfl) (hr.mono (by first | decide | exact Nat.le_refl _)) T.bI_BadWord pass0 (pa_cons (pv 1) pa_nil)))) pss_nil)
      (pss_one (ps_ret (pv 2)))))), ?_⟩
    refine ⟨_, rfl, L, rfl, sL, good, fun al H1 s1 => ?_, qa⟩
    refine ⟨_, rfl, _, rfl, L, v, 4000, rfl, sL.same s1, sv.same s1, s1.good good, fun e => ?_, fun n1 e => ?_, fun n1 n2 H2 s2 => ⟨fun wd => ?_, fun wd => ?_⟩⟩
    · exact ⟨_, rfl, rfl, _, rfl, iteN rfl ⟨_, rfl, q1 al e H1 s1⟩⟩
    · refine ⟨_, rfl, rfl, _, rfl, iteC rfl ?_⟩
      exact ⟨_, rfl, _, rfl, fun d nd => q3 al n1 (.inr e) d H1 _ s1 nd rfl⟩
    · obtain ⟨z, x, rfl, rfl, a, o, l⟩ := wd
      exact ⟨_, rfl, rfl, _, rfl, iteN rfl ⟨_, rfl, q2 al n1 ⟨z, x, rfl, rfl, a, o, by omega⟩ n2 H2 (s1.trans s2)⟩⟩
    · refine ⟨_, rfl, rfl, _, rfl, iteC rfl ?_⟩
      refine ⟨_, rfl, _, rfl, fun d nd => q3 al n1 (.inl fun ⟨z, x, e1, e2, a, o, l⟩ => wd ⟨z, x, e1, e2, a, o, by omega⟩) d H2 _ (s1.trans s2) nd rfl⟩

def sp_word_index [Tabl] (C D : Addr) (_ : PySem.W.Frag) : Sp := fun vs H Q E => ∃ L v : V, vs = [L, v] ∧ Shal H L ∧ Shal H v ∧ Good H ∧ (∀ z x : Str, L = .str z → v = .str x → IsAlpha z → Over z x → x.length ≤ 4000 → ∀ H' : Hp, Same H H' → Q (.int (num z (cs x) : Nat)) H') ∧ (¬ AlphaV L → Raised H C L E) ∧ (AlphaV L → ¬ WordV L v 4000 → Raised H D v E)
theorem ok_word_index (T : Txt K mg base) : FnOk P w K mg base (L2.CX P w) (7 + 1) T.f_word_index T.fd_word_index ["letters", "word"] (sp_word_index T.C_BadLetters T.C_BadWord K) := by
  refine T.F_word_index.okX sc_word_index (fun vs H Q E h => ?_) (fun cdv A outer s H vs Q E hr h => ?_)
  · obtain ⟨z, x, rfl, _⟩ := h
    rfl
  · obtain ⟨L, v, rfl, sL, sv, good, q, qa, qw⟩ := h
    refine ⟨_, (pss_cons (ps_expr (pe_callS (ok_check_word T) (hr.mono (by first | decide | exact Nat.le_refl _)) (by rfl) T.g_check_word T.F_check_word.kp T.b_check_word (fun σ => passAt (takes_of rfl rfl rfl rfl) σ) (pa_cons (pv 0) (pa_cons (pv 1) pa_nil))))
      (pss_cons (ps_set (i := 2) sc_word_index.nd rfl (.inl rfl) pe_int)
      (pss_cons (ps_for (passes_of rfl) rfl (pi_str (pv 1)) (pg_name (i := 3) sc_word_index.nd rfl (.inl rfl)) (pss_one (ps_set (i := 2) sc_word_index.nd rfl (.inl rfl) (pe_op op_add (pe_op op_add (pe_op op_mulW (pv 2) (pe_callB call_len_str (by rfl) T.z_len PySem.boot_len (pa_cons (pv 0) pa_nil))) (pe_bmS PySem.F.plainAttrs_str PySem.F.slot_str_index PySem.F.type_str_index (mt_indexX rfl LamX.takes0) (pv 0) (pa_cons (pv 3) pa_nil))) pe_int))))
      (pss_one (ps_ret (pv 2)))))), ?_⟩
    refine ⟨_, rfl, _, rfl, L, v, rfl, sL, sv, good, fun wo H1 s1 => ?_, qa, qw⟩
    obtain ⟨z, x, rfl, rfl, al, ox, lx⟩ := wo
    replace q := q z x rfl rfl al ox lx
    refine ⟨_, rfl, x, rfl, for_str (fun i σ H' => ∃ y, σ = [some (.str z), some (.str x), some (.int (num z ((cs x).take i) : Nat)), y] ∧ H' = H1) ⟨none, rfl, rfl⟩ ?_ ?_⟩
    · rintro i c σ H' hc ⟨y, rfl, rfl⟩
      have i0 : i < (cs x).length := (List.getElem?_eq_some_iff.mp hc).1
      have mem : ∀ d ∈ (cs x).take i, d ∈ cs z := fun d m => ox d (List.mem_of_mem_take m)
      have l4 : (cs z).length ≤ 4 := by
        rw [cs_len]
        exact al.len4
      have wide := num_wide l4 mem (by rw [List.length_take, cs_len]; omega)
      refine ⟨_, rfl, _, rfl, z, rfl, small_text al.small, _, _, rfl, rfl, wide_mul (a := 12000) (b := 3) (by simpa using wide) ?_ (by decide) (by decide) (by decide), ?_⟩
      · have := al.len4
        simp only [Int.natAbs_natCast]
        omega
      refine ⟨_, rfl, rfl, _, rfl, z, ⟨#[c]⟩, rfl, rfl, fun k hk => ?_, fun e => absurd (ox c (List.mem_of_getElem? hc)) (index_none e)⟩
      refine ⟨_, _, rfl, rfl, _, _, rfl, rfl, some (.str ⟨#[c]⟩), ?_, rfl⟩
      have e1 : (cs x).take (i + 1) = (cs x).take i ++ [c] := by
        rw [List.take_add_one, hc]
        rfl
      have e2 : ((num z ((cs x).take i) : Int) * (z.length : Int) + (k : Int)) + 1 = ((num z ((cs x).take (i + 1)) : Nat) : Int) := by
        rw [e1, num_snoc, pl_at al.nodup (index_sign hk), cs_len]
        push_cast
        rfl
      rw [← e2]
      rfl
    · rintro σ H' ⟨y, rfl, rfl⟩
      refine ⟨_, rfl, ?_⟩
      rw [List.take_length]
      exact q H' s1

def sp_words_checked [Tabl] (_ : PySem.W.Frag) : Sp := fun vs H Q _ => ∃ L v : V, vs = [L, v] ∧ (∃ a, Deep a 7 H L ∧ Deep a 7 H v) ∧ Good H ∧ ∀ H' : Hp, Same H H' → Q (.bl true) H'
theorem ok_words_checked (T : Txt K mg base) : FnOk P w K mg base CX0 (13 + 1) T.f_words_checked T.fd_words_checked ["letters", "value"] (sp_words_checked K) := by
  refine T.F_words_checked.ok sc_words_checked (fun vs H Q E h => ?_) (fun A outer s H vs Q E hr h => ?_)
  · obtain ⟨L, v, rfl, _⟩ := h
    rfl
  · obtain ⟨L, v, rfl, ⟨a, dL, dv⟩, good, q⟩ := h
    refine ⟨_, (pss_cons (ps_set (i := 2) sc_words_checked.nd rfl (.inl rfl) (pe_call (ok_word_due T) (hr.mono (by first | decide | exact Nat.le_refl _)) (by rfl) T.g_word_due T.F_word_due.kp T.b_word_due .nil pass0 (pa_cons (pv 0) (pa_cons (pv 1) pa_nil))))
      (pss_cons (ps_if (pt_not (pt_val (pe_call (ok_sameB T) (hr.mono (by first | decide | exact Nat.le_refl _)) (by rfl) T.g_same T.F_same.kp T.b_same .nil pass0 (pa_cons (pe_lam (k := 7) T.F_gave T.b_gave sc_gave (fun cdg => gives_gave T _ _ _ _ _ _ _ _ _ _ cdg) T.B_words_checked T.m_words_checked rfl (hr.mono (by first | decide | exact Nat.le_refl _)) (LamX.lamS_by (sc := defScope s_words_checked) (by decide +kernel)) T.g_gave (fun A outer s H E f c hr2 => pe_callS (ok_check_word T) hr2 (by rfl) T.g_check_word T.F_check_word.kp T.b_check_word (fun σ => passAt (takes_of rfl rfl rfl rfl) σ) (pa_cons (pv 0) (pa_cons (pv 1) pa_nil)))) (pa_cons (pv 2) pa_nil))))) (pss_one (ps_ret pe_bl)) pss_nil)
      (pss_cons (ps_set (i := 3) sc_words_checked.nd rfl (.inl rfl) (pe_call (ok_good_letters T) (hr.mono (by first | decide | exact Nat.le_refl _)) (by rfl) T.g_good_letters T.F_good_letters.kp T.b_good_letters .nil pass0 (pa_cons (pv 0) pa_nil)))
      (pss_cons (ps_if (pt_not (pt_val (pe_call (ok_sameB T) (hr.mono (by first | decide | exact Nat.le_refl _)) (by rfl) T.g_same T.F_same.kp T.b_same .nil pass0 (pa_cons (pe_call (ok_is_letters T) (hr.mono (by first | decide | exact Nat.le_refl _)) (by rfl) T.g_is_letters T.F_is_letters.kp T.b_is_letters .nil pass0 (pa_cons (pv 0) pa_nil)) (pa_cons (pv 3) pa_nil))))) (pss_one (ps_ret pe_bl)) pss_nil)
      (pss_cons (ps_if (pt_not (pt_val (pe_call (ok_sameB T) (hr.mono (by first | decide | exact Nat.le_refl _)) (by rfl) T.g_same T.F_same.kp T.b_same .nil pass0 (pa_cons (pe_call (ok_is_word T) (hr.mono (by first | decide | exact Nat.le_refl _)) (by rfl) T.g_is_word T.F_is_word.kp T.b_is_word .nil pass0 (pa_cons (pv 0) (pa_cons (pv 1) pa_nil))) (pa_cons (pe_and (pv 3) (pe_one (pe_call (ok_lw_is_word T) (hr.mono (by first | decide | exact Nat.le_refl _)) (by rfl) T.g_lw_is_word T.F_lw_is_word.kp T.b_lw_is_word .nil pass0 (pa_cons (pv 0) (pa_cons (pv 1) pa_nil))))) pa_nil))))) (pss_one (ps_ret pe_bl)) pss_nil)
      (pss_cons (ps_set (i := 4) sc_words_checked.nd rfl (.inl rfl) (pe_lam (k := 8) T.F_gave T.b_gave sc_gave (fun cdg => gives_gave T _ _ _ _ _ _ _ _ _ _ cdg) T.B_words_checked T.m_words_checked rfl (hr.mono (by first | decide | exact Nat.le_refl _)) (LamX.lamS_by (sc := defScope s_words_checked) (by decide +kernel)) T.g_gave (fun A outer s H E f c hr2 => pe_callS (ok_word_index T) hr2 (by rfl) T.g_word_index T.F_word_index.kp T.b_word_index (fun σ => passAt (takes_of rfl rfl rfl rfl) σ) (pa_cons (pv 0) (pa_cons (pv 1) pa_nil)))))
      (pss_cons (ps_set (i := 5) sc_words_checked.nd rfl (.inl rfl) (pe_call (ok_sameB T) (hr.mono (by first | decide | exact Nat.le_refl _)) (by rfl) T.g_same T.F_same.kp T.b_same .nil pass0 (pa_cons (pv 4) (pa_cons (pv 2) pa_nil))))
      (C8.pss_cut (ps_if (pt_cmpR op_eq (pe_ix ix_tup (pv 2) pe_int (fun _ _ => rfl)) pe_str (nomark _)) (pss_one (ps_set (i := 5) sc_words_checked.nd rfl (.inl rfl) (pe_and (pe_cmpR op_eq (pe_ix ix_tup (pv 4) pe_int (fun _ _ => rfl)) pe_str (nomark _)) (pe_one (pe_call (ok_is_integer T) (hr.mono (by first | decide | exact Nat.le_refl _)) (by rfl) T.g_is_integer T.F_is_integer.kp T.b_is_integer .nil pass0 (pa_cons (pe_ix ix_tup (pv 4) pe_int (fun _ _ => rfl)) pa_nil)))))) pss_nil)
      (pss_cons (ps_if (pt_not (pt_val (pv 5))) (pss_one (ps_ret pe_bl)) pss_nil)
      (C8.pss_cut (ps_if (PW.pt (pw_and (pt_cmpR op_eq (pe_ix ix_tup (pv 2) pe_int (fun _ _ => rfl)) pe_str (nomark _)) (pw_and1 (pt_cmpR (op_eqStr (Nat.lt_of_le_of_lt (Nat.le_add_right _ 64) hr.units)) (pv 1) pe_str (nomark _))))) (pss_one (ps_set (i := 2) sc_words_checked.nd rfl (.inl rfl) (pe_tup (pa_cons pe_str (pa_cons (pv 1) pa_nil))))) pss_nil)
      (C8.pss_cut (ps_if (PW.pt (pw_and (pt_val (pv 3)) (pw_and1 (pt_val (pe_call (ok_sameB T) (hr.mono (by first | decide | exact Nat.le_refl _)) (by rfl) T.g_same T.F_same.kp T.b_same .nil pass0 (pa_cons (pv 1) (pa_cons pe_str pa_nil))))))) (pss_one (ps_set (i := 2) sc_words_checked.nd rfl (.inl rfl) (pe_tup (pa_cons pe_str (pa_cons pe_str pa_nil))))) pss_nil)
      (pss_one (ps_ret (pe_call (ok_sameB T) (hr.mono (by first | decide | exact Nat.le_refl _)) (by rfl) T.g_same T.F_same.kp T.b_same .nil pass0 (pa_cons (pe_lam (k := 7) T.F_gave T.b_gave sc_gave (fun cdg => gives_gave T _ _ _ _ _ _ _ _ _ _ cdg) T.B_words_checked T.m_words_checked rfl (hr.mono (by first | decide | exact Nat.le_refl _)) (LamX.lamS_by (sc := defScope s_words_checked) (by decide +kernel)) T.g_gave (fun A outer s H E f c hr2 => pe_callS (ok_read_shown T) hr2 (by rfl) T.g_read_shown T.F_read_shown.kp T.b_read_shown (fun σ => passAt (takes_of rfl rfl rfl rfl) σ) (pa_cons (pv 0) (pa_cons (pv 1) pa_nil)))) (pa_cons (pv 2) pa_nil)))))))))))))))), ?_⟩
    have sL := dL.shal
    have sv := dv.shal
    refine ⟨_, rfl, _, rfl, L, v, rfl, sL, sv, fun xs p due np => ?_⟩
    have s1 := same_new (o := .tup xs) np
    have hp : (upd H p (.tup xs)) p = some (.tup xs) := upd_same
    generalize upd H p (.tup xs) = H1 at s1 hp ⊢
    have pair : ∃ (nm : Str) (u : V), xs = [.str nm, u] ∧ nm.length ≤ 1000000 ∧ Deep a 7 H u := by
      rcases due with ⟨_, e⟩ | ⟨_, _, e⟩ | ⟨_, e⟩
      · exact ⟨_, _, e, by decide +kernel, dL⟩
      · exact ⟨_, _, e, by decide +kernel, dv⟩
      · exact ⟨_, _, e, by decide +kernel, dv⟩
    have tupN : ∀ {Hx : Hp} {t : Addr} {nm : Str} {u : V}, nm.length ≤ 1000000 → DeepN 8 Hx u → Hx t = some (.tup [.str nm, u]) → DeepN 9 Hx (.ref t) := fun l du e => .inr ⟨_, _, rfl, .inr e, by show 2 ≤ 1000000; decide, fun y m => by
      rcases List.mem_cons.mp m with m | m
      · subst m
        exact .inl ⟨rfl, fun z e => by cases e; exact l⟩
      · rw [List.mem_singleton.mp m]
        exact du⟩
    have like : ∀ {Hx : Hp} {t r : Addr} {zs : List V}, (∀ y ∈ zs, SameD 8 Hx y y) → zs.length ≤ 1000000 → Hx t = some (.tup zs) → Hx r = some (.tup zs) → SameD 9 Hx (.ref t) (.ref r) := fun sm l e1 e2 => .inr ⟨_, _, _, _, rfl, rfl, .inl ⟨e1, e2⟩, rfl, l, fun i x' y' ex ey => by
      rw [ex] at ey
      cases ey
      exact sm _ (List.mem_of_getElem? ex)⟩
    have itemsN : ∀ {Hx : Hp}, Same H Hx → ∀ y ∈ xs, SameD 8 Hx y y := fun sx y m => by
      obtain ⟨nm, u, e, l, du⟩ := pair
      subst e
      rcases List.mem_cons.mp m with m | m
      · subst m
        exact .inl ⟨rfl, rfl⟩
      · rw [List.mem_singleton.mp m]
        exact ((du.same sx).le (by decide : 7 ≤ 8)).samed
    have dueN : ∀ {Hx : Hp} {t : Addr}, Same H Hx → Hx t = some (.tup xs) → DeepN 9 Hx (.ref t) := fun sx e => by
      obtain ⟨nm, u, e2, l, du⟩ := pair
      subst e2
      exact tupN l ((du.same sx).le (by decide : 7 ≤ 8)).toN e
    have lx : xs.length ≤ 1000000 := by
      obtain ⟨nm, u, e2, l, du⟩ := pair
      subst e2
      show 2 ≤ 1000000
      decide
    have blN : ∀ {Hx : Hp} {b : Bool}, DeepN 9 Hx (.bl b) := .inl ⟨rfl, fun z e => by cases e⟩
    have blS : ∀ {Hx : Hp} {b : Bool}, SameD 9 Hx (.bl b) (.bl b) := .inl ⟨rfl, rfl⟩
    -- check_word
    refine lift_if _ (gave_run T xs (s1.good good) fun H2 E' Q' s2 val err => ?_) ?_
    · have sD := s1.trans s2
      refine ⟨_, rfl, _, rfl, L, v, rfl, sL.same sD, sv.same sD, sD.good good, fun wd H3 s3 => val v H3 s3 ?_, fun na => err _ _ _ (.inl ⟨rfl, rfl⟩) ?_, fun al nw => err _ _ _ (.inr (.inl ⟨rfl, rfl⟩)) ?_⟩
      · rcases due with ⟨n, e⟩ | ⟨_, n, e⟩ | ⟨_, e⟩
        · obtain ⟨z, x, e1, _, a, _⟩ := wd
          exact (n ⟨z, e1, a⟩).elim
        · exact (n wd).elim
        · exact e
      · rcases due with ⟨_, e⟩ | ⟨y, _, e⟩ | ⟨⟨z, x, e1, _, a, _⟩, e⟩
        · exact e
        · exact (na y).elim
        · exact (na ⟨z, e1, a⟩).elim
      · rcases due with ⟨n, e⟩ | ⟨_, _, e⟩ | ⟨y, e⟩
        · exact (n al).elim
        · exact e
        · exact (nw y).elim
    rintro _ H3 ⟨tt, rfl, s3, ht⟩
    have sm3 := s1.trans s3
    have hp3 := s3 _ _ hp
    refine ⟨_, rfl, _, _, rfl, dueN sm3 ht, dueN sm3 hp3, fun b hb => ⟨_, rfl, ?_⟩⟩
    have bt : b = true := hb.mpr (like (itemsN sm3) lx ht hp3)
    subst bt
    refine iteF ?_
    refine ⟨_, rfl, L, rfl, sL.same sm3, fun g hg => ?_⟩
    refine ⟨_, rfl, L, rfl, sL.same sm3, sm3.good good, fun b H4 hb s4 => ⟨_, rfl, _, _, rfl, blN, blN, fun b2 hb2 => ⟨_, rfl, ?_⟩⟩⟩
    have eb : b = g := by
      rw [Bool.eq_iff_iff, hb, hg]
      rfl
    subst eb
    have bt : b2 = true := hb2.mpr blS
    subst bt
    refine iteF ?_
    have sm4 := sm3.trans s4
    refine next_to ?_
    dsimp only
    refine lift_if2 (fun x y H5 => ∃ r : Bool, x = .bl r ∧ y = .bl r ∧ Same H4 H5) (fun Qx k => ⟨_, rfl, _, rfl, L, v, rfl, sL.same sm4, sv.same sm4, sm4.good good, fun b3 H5 hb3 s5 => ⟨_, rfl, b, rfl, ?_⟩⟩) ?_
    · cases b with
      | true =>
        obtain ⟨z, e1, a1⟩ := hg.mp rfl
        subst e1
        refine iteT ⟨_, rfl, _, rfl, z, v, rfl, (sv.same sm4).same s5, fun r hr => k _ _ _ ⟨b3, rfl, ?_, s5⟩⟩
        have : r = b3 := by
          rw [Bool.eq_iff_iff, hr, hb3]
          exact ⟨fun ⟨x, e, o⟩ => ⟨z, x, rfl, e, a1, o⟩, fun ⟨z', x, e1, e2, _, o⟩ => by cases e1; exact ⟨x, e2, o⟩⟩
        rw [this]
      | false =>
        refine iteF (k _ _ _ ⟨b3, rfl, ?_, s5⟩)
        have : b3 = false := by
          cases h : b3 with
          | false => rfl
          | true =>
            obtain ⟨z, x, e1, _, a1, _⟩ := hb3.mp h
            cases hg.mpr ⟨z, e1, a1⟩
        rw [this]
    rintro _ _ H5 ⟨r, rfl, rfl, s5⟩
    refine ⟨_, _, rfl, blN, blN, fun b2 hb2 => ⟨_, rfl, ?_⟩⟩
    have bt : b2 = true := hb2.mpr blS
    subst bt
    refine iteF ?_
    refine next_to ?_
    dsimp only
    have sm5 := sm4.trans s5
    have hp5 := s5 _ _ (s4 _ _ hp3)
    -- word_index
    obtain ⟨ys, hys⟩ : ∃ ys : List V, (¬ AlphaV L ∧ ys = [.str (Str.ofString "BadLetters"), L] ∧ xs = ys) ∨ (AlphaV L ∧ ¬ WordV L v 4000 ∧ ys = [.str (Str.ofString "BadWord"), v] ∧ xs = ys) ∨
        (∃ z x, L = .str z ∧ v = .str x ∧ IsAlpha z ∧ Over z x ∧ x.length ≤ 4000 ∧ ys = [.str (Str.ofString "gave"), .int (num z (cs x) : Nat)] ∧ xs = [.str (Str.ofString "gave"), v]) := by
      rcases due with ⟨n, e⟩ | ⟨y, n, e⟩ | ⟨⟨z, x, e1, e2, a1, o, l⟩, e⟩
      · exact ⟨_, .inl ⟨n, rfl, e⟩⟩
      · exact ⟨_, .inr (.inl ⟨y, n, rfl, e⟩)⟩
      · exact ⟨_, .inr (.inr ⟨z, x, e1, e2, a1, o, l, rfl, e⟩)⟩
    refine lift_asg _ (gave_run T ys (sm5.good good) fun H6 E' Q' s6 val err => ?_) ?_
    · have sD := sm5.trans s6
      refine ⟨_, rfl, _, rfl, L, v, rfl, sL.same sD, sv.same sD, sD.good good, fun z x e1 e2 a1 o l H7 s7 => val _ H7 s7 ?_, fun na => err _ _ _ (.inl ⟨rfl, rfl⟩) ?_, fun al nw => err _ _ _ (.inr (.inl ⟨rfl, rfl⟩)) ?_⟩
      · rcases hys with ⟨n, _⟩ | ⟨_, n, _⟩ | ⟨z', x', e1', e2', _, _, _, e, _⟩
        · exact (n ⟨z, e1, a1⟩).elim
        · exact (n ⟨z, x, e1, e2, a1, o, l⟩).elim
        · rw [e1] at e1'
          rw [e2] at e2'
          cases e1'
          cases e2'
          exact e
      · rcases hys with ⟨_, e, _⟩ | ⟨y, _⟩ | ⟨z, x, e1, _, a1, _⟩
        · exact e
        · exact (na y).elim
        · exact (na ⟨z, e1, a1⟩).elim
      · rcases hys with ⟨n, _⟩ | ⟨_, _, e, _⟩ | ⟨z, x, e1, e2, a1, o, l, _⟩
        · exact (n al).elim
        · exact e
        · exact (nw ⟨z, x, e1, e2, a1, o, l⟩).elim
    rintro _ H7 ⟨t2, rfl, s7, ht2⟩
    have sm7 := sm5.trans s7
    have hp7 := s7 _ _ hp5
    have toldN : DeepN 9 H7 (.ref t2) := by
      rcases hys with ⟨_, _, e⟩ | ⟨_, _, _, e⟩ | ⟨z, x, _, _, _, _, _, e, _⟩
      · rw [← e] at ht2
        exact dueN sm7 ht2
      · rw [← e] at ht2
        exact dueN sm7 ht2
      · subst e
        exact tupN (by decide +kernel) (.inl ⟨rfl, fun y e => by cases e⟩) ht2
    refine ⟨_, rfl, _, rfl, _, _, rfl, toldN, dueN sm7 hp7, fun br hbr => ?_⟩
    have nv : ∀ {Hx : Hp}, Same H Hx → DeepN 9 Hx v := fun sx => ((dv.same sx).le (by decide : 7 ≤ 9)).toN
    refine ⟨fun σ' H' => σ' = [some L, some v, some (.ref p), some (.bl b), some (.ref t2), some (.bl true)] ∧ H' = H7, ?_, ?_⟩
    · obtain ⟨nm, u, exs, lnm, dun⟩ := pair
      subst exs
      refine ⟨_, rfl, _, _, _, _, rfl, rfl, .inl (.inl hp7), rfl, rfl, _, rfl, ite2 (fun g => ?_) (fun g => ?_)⟩
      · have g := of_decide_eq_true g
        rcases hys with ⟨_, e, e'⟩ | ⟨_, _, e, e'⟩ | ⟨z, x, _, _, _, _, _, e, e'⟩
        · rw [← e'] at e
          have e2 := (List.cons.inj e).1
          rw [g] at e2
          exact absurd e2 (by decide)
        · rw [← e'] at e
          have e2 := (List.cons.inj e).1
          rw [g] at e2
          exact absurd e2 (by decide)
        · subst e
          exact ⟨_, rfl, _, _, _, _, rfl, rfl, .inl (.inl ht2), rfl, rfl, _, rfl, iteC (by decide) ⟨_, rfl, _, _, _, _, rfl, rfl, .inl (.inl ht2), rfl, _, rfl, shal_int, rfl, rfl⟩⟩
      · have exy : ([.str nm, u] : List V) = ys := by
          rcases hys with ⟨_, _, e'⟩ | ⟨_, _, _, e'⟩ | ⟨z, x, _, _, _, _, _, _, e'⟩
          · exact e'
          · exact e'
          · exact absurd (decide_eq_true (List.cons.inj e').1) g
        have bt : br = true := hbr.mpr (like (itemsN sm7) lx (by rw [exy]; exact ht2) hp7)
        subst bt
        exact ⟨rfl, rfl⟩
    rintro σ' H' ⟨rfl, rfl⟩
    refine ⟨_, rfl, _, rfl, iteF ?_⟩
    refine next_to ?_
    dsimp only
    refine ⟨fun σ' H8 => ∃ (p2 : Addr) (ws : List V), σ' = [some L, some v, some (.ref p2), some (.bl b), some (.ref t2), some (.bl true)] ∧ Same H' H8 ∧ H8 p2 = some (.tup ws) ∧ ((¬ AlphaV L ∧ ws = [.str (Str.ofString "BadLetters"), L]) ∨ (AlphaV L ∧ (¬ WordV L v 4000 ∨ v = .str (Str.ofString "")) ∧ ws = [.str (Str.ofString "BadWord"), v]) ∨ (WordV L v 4000 ∧ v ≠ .str (Str.ofString "") ∧ ws = [.str (Str.ofString "gave"), v])), ?_, ?_⟩
    · obtain ⟨nm, u, exs, lnm, dun⟩ := pair
      subst exs
      refine ⟨_, rfl, _, _, _, _, rfl, rfl, .inl (.inl hp7), rfl, rfl, _, rfl, ite2 (fun g => ?_) (fun g => ?_)⟩
      · have g := of_decide_eq_true g
        rcases due with ⟨_, e⟩ | ⟨_, _, e⟩ | ⟨wd, e⟩
        · have e2 := (List.cons.inj e).1
          rw [g] at e2
          exact absurd e2 (by decide)
        · have e2 := (List.cons.inj e).1
          rw [g] at e2
          exact absurd e2 (by decide)
        · refine ⟨_, rfl, _, rfl, sv.same sm7, _, rfl, ite2 (fun g2 => ?_) (fun g2 => ?_)⟩
          · have al : AlphaV L := by
              obtain ⟨z, x, e1, _, a1, _⟩ := wd
              exact ⟨z, e1, a1⟩
            exact ⟨_, rfl, by show 2 ≤ sizeLine; decide, fun r nr => ⟨r, _, rfl, same_new nr, upd_same, .inr (.inl ⟨al, .inr (of_decide_eq_true g2), rfl⟩)⟩⟩
          · exact ⟨p, _, rfl, .refl _, hp7, .inr (.inr ⟨wd, fun h => g2 (decide_eq_true h), e⟩)⟩
      · rcases due with ⟨n, e⟩ | ⟨al, n, e⟩ | ⟨wd, e⟩
        · exact iteF ⟨p, _, rfl, .refl _, hp7, .inl ⟨n, e⟩⟩
        · exact iteF ⟨p, _, rfl, .refl _, hp7, .inr (.inl ⟨al, .inl n, e⟩)⟩
        · exact absurd (decide_eq_true (List.cons.inj e).1) g
    rintro σ' H8 ⟨p2, ws, rfl, s8, hp8, hws⟩
    have sm8 := sm7.trans s8
    refine ⟨fun σ' H9 => ∃ (p3 : Addr) (us : List V), σ' = [some L, some v, some (.ref p3), some (.bl b), some (.ref t2), some (.bl true)] ∧ Same H8 H9 ∧ H9 p3 = some (.tup us) ∧ ((¬ AlphaV L ∧ us = [.str (Str.ofString "BadLetters"), L]) ∨ (AlphaV L ∧ v = .str (Str.ofString "-") ∧ us = [.str (Str.ofString "gave"), .str (Str.ofString "")]) ∨
        (AlphaV L ∧ v ≠ .str (Str.ofString "-") ∧ (¬ WordV L v 4000 ∨ v = .str (Str.ofString "")) ∧ us = [.str (Str.ofString "BadWord"), v]) ∨ (AlphaV L ∧ v ≠ .str (Str.ofString "-") ∧ WordV L v 4000 ∧ v ≠ .str (Str.ofString "") ∧ us = [.str (Str.ofString "gave"), v])), ?_, ?_⟩
    · refine ⟨_, rfl, _, rfl, ?_⟩
      cases b with
      | false =>
        refine iteF (iteF ⟨p2, ws, rfl, .refl _, hp8, ?_⟩)
        have na : ¬ AlphaV L := fun h => by cases hg.mpr h
        rcases hws with ⟨n, e⟩ | ⟨al, _⟩ | ⟨⟨z, x, e1, _, a1, _⟩, _⟩
        · exact .inl ⟨n, e⟩
        · exact (na al).elim
        · exact (na ⟨z, e1, a1⟩).elim
      | true =>
        have al := hg.mp rfl
        refine iteT ⟨_, rfl, _, _, rfl, nv sm8, .inl ⟨rfl, fun y e => by cases e; decide +kernel⟩, fun bs hbs => ⟨_, rfl, ?_⟩⟩
        have hbs' : bs = true ↔ v = .str (Str.ofString "-") := hbs.trans (same_atom rfl)
        cases bs with
        | true => exact iteT ⟨by show 2 ≤ sizeLine; decide, fun r nr => ⟨r, _, rfl, same_new nr, upd_same, .inr (.inl ⟨al, hbs'.mp rfl, rfl⟩)⟩⟩
        | false =>
          have nd : v ≠ .str (Str.ofString "-") := fun h => by cases hbs'.mpr h
          refine iteF ⟨p2, ws, rfl, .refl _, hp8, ?_⟩
          rcases hws with ⟨n, e⟩ | ⟨_, n, e⟩ | ⟨wd, n, e⟩
          · exact (n al).elim
          · exact .inr (.inr (.inl ⟨al, nd, n, e⟩))
          · exact .inr (.inr (.inr ⟨al, nd, wd, n, e⟩))
    rintro σ' H9 ⟨p3, us, rfl, s9, hp9, hus⟩
    have sm9 := sm8.trans s9
    have upair : ∃ (nm : Str) (u : V), us = [.str nm, u] ∧ nm.length ≤ 1000000 ∧ Deep a 7 H u := by
      rcases hus with ⟨_, e⟩ | ⟨_, _, e⟩ | ⟨_, _, _, e⟩ | ⟨_, _, _, _, e⟩
      · exact ⟨_, _, e, by decide +kernel, dL⟩
      · exact ⟨_, _, e, by decide +kernel, deep_str (by decide +kernel)⟩
      · exact ⟨_, _, e, by decide +kernel, dv⟩
      · exact ⟨_, _, e, by decide +kernel, dv⟩
    refine lift_ret _ (gave_run T us (sm9.good good) fun H10 E' Q' s10 val err => ?_) ?_
    · have sD := sm9.trans s10
      refine ⟨_, rfl, _, rfl, L, v, rfl, sL.same sD, sv.same sD, sD.good good, fun na => err _ _ _ (.inl ⟨rfl, rfl⟩) ?_, fun al e H11 s11 => val _ H11 s11 ?_, fun al n wd n2 H11 s11 => val _ H11 s11 ?_, fun al n w => err _ _ _ (.inr (.inl ⟨rfl, rfl⟩)) ?_⟩
      · rcases hus with ⟨_, e⟩ | ⟨al, _⟩ | ⟨al, _⟩ | ⟨al, _⟩
        · exact e
        · exact (na al).elim
        · exact (na al).elim
        · exact (na al).elim
      · rcases hus with ⟨n, _⟩ | ⟨_, _, e'⟩ | ⟨_, n, _⟩ | ⟨_, n, _⟩
        · exact (n al).elim
        · exact e'
        · exact (n e).elim
        · exact (n e).elim
      · rcases hus with ⟨n', _⟩ | ⟨_, e', _⟩ | ⟨_, _, n', _⟩ | ⟨_, _, _, _, e'⟩
        · exact (n' al).elim
        · exact (n e').elim
        · exact n'.elim (fun h => (h wd).elim) fun h => (n2 h).elim
        · exact e'
      · rcases hus with ⟨n', _⟩ | ⟨_, e', _⟩ | ⟨_, _, _, e'⟩ | ⟨_, _, wd, n2, _⟩
        · exact (n' al).elim
        · exact (n e').elim
        · exact e'
        · exact w.elim (fun h => (h wd).elim) fun h => (n2 h).elim
    rintro _ H12 ⟨t4, rfl, s12, ht4⟩
    have sm12 := sm9.trans s12
    have hp12 := s12 _ _ hp9
    obtain ⟨nm, u, e, l, du⟩ := upair
    subst e
    have un : ∀ {t : Addr}, H12 t = some (.tup [.str nm, u]) → DeepN 9 H12 (.ref t) := fun e => tupN l ((du.same sm12).le (by decide : 7 ≤ 8)).toN e
    refine ⟨_, rfl, _, _, rfl, un ht4, un hp12, fun bz hbz => ?_⟩
    have bt : bz = true := hbz.mpr (like (fun y m => ?_) (by show 2 ≤ 1000000; decide) ht4 hp12)
    · subst bt
      exact q H12 sm12
    · rcases List.mem_cons.mp m with m | m
      · subst m
        exact .inl ⟨rfl, rfl⟩
      · rw [List.mem_singleton.mp m]
        exact ((du.same sm12).le (by decide : 7 ≤ 8)).samed

def sp_is_name (_ : PySem.W.Frag) : Sp := fun vs H Q _ => ∃ v : V, vs = [v] ∧ Shal H v ∧ Good H ∧ ∀ (b : Bool) (H' : Hp), (b = true ↔ NameV v) → Same H H' → Q (.bl b) H'
theorem ok_is_name (T : Txt K mg base) : FnOk P w K mg base CX0 (0 + 1) T.f_is_name T.fd_is_name ["value"] (sp_is_name K) := by
  refine T.F_is_name.ok sc_is_name (fun vs H Q E h => ?_) (fun A outer s H vs Q E hr h => ?_)
  · obtain ⟨v, rfl, _⟩ := h
    rfl
  · obtain ⟨v, rfl, sv, good, q⟩ := h
    refine ⟨_, (pss_cons (ps_if (PW.pt (pw_or (pt_not (pt_val (pe_callB call_isi (by rfl) T.z_isinstance (by decide +kernel) (pa_cons (pv 0) (pa_cons (pe_bltn (v := .ty "str") (by rfl) T.z_str (by decide +kernel) rfl) pa_nil))))) (pw_or1 (pt_not (pt_chain op_le op_le pe_int (pe_callB call_len_str (by rfl) T.z_len PySem.boot_len (pa_cons (pv 0) pa_nil)) (pe_glob (v := .int 12) (by rfl) T.c_MAX_NAME ⟨_, rfl⟩)))))) (pss_one (ps_ret pe_bl)) pss_nil)
      (pss_one (ps_ret (pe_and (pe_cmpR op_in_sign (pe_ix ix_str (pv 0) pe_int (fun _ _ => rfl)) (pe_glob (v := .str "abcdefghijklmnopqrstuvwxyz") (by rfl) T.c_SMALL_LETTERS ⟨_, rfl⟩) rfl) (pe_one (GQ.pe_allG2 hr T.z_all T.c_SMALL_LETTERS T.c_DIGITS T.B_is_name T.m_is_name rfl (GQ.genB_by (sc := defScope s_is_name) (by decide +kernel)) (pv 0))))))), ?_⟩
    obtain ⟨ty, hty, kt⟩ := isi_str (K := K) sv
    refine ⟨_, rfl, _, _, _, _, _, rfl, .ty _, hty, kt, _, rfl, ?_⟩
    cases hs : isStr v with
    | false =>
      refine iteC rfl (iteC rfl (q false _ ⟨fun h => (by cases h), fun ⟨x, e, _⟩ => ?_⟩ (.refl H)))
      rw [e] at hs
      cases hs
    | true =>
    obtain ⟨x, rfl⟩ := isStr_of hs
    have bx := sv.text
    refine iteF ?_
    refine ⟨_, rfl, x, rfl, small_text bx, _, _, rfl, rfl, _, rfl, ite2 (fun g1 => ?_) (fun g1 => ?_)⟩
    · refine ⟨_, _, rfl, rfl, _, rfl, ?_⟩
      have g1 : 1 ≤ x.length := by
        have := of_decide_eq_true g1
        omega
      by_cases g2 : x.length ≤ 12
      · refine iteN (by rw [decide_eq_true (by omega)]; rfl) ?_
        have h0 : 0 < (cs x).length := by
          rw [cs_len]
          omega
        refine ⟨_, rfl, x, 0, (cs x)[0], rfl, rfl, small_text bx, atI_nat (j := 0) (List.getElem?_eq_getElem h0), _, abc, rfl, rfl, _, rfl, ?_⟩
        have first : (cs x)[0]? = some (cs x)[0] := List.getElem?_eq_getElem h0
        by_cases m : (cs x)[0] ∈ cs abc
        · refine iteC (decide_eq_true m) ⟨_, rfl, x, rfl, good, fun H1 s1 => q _ _ ?_ s1⟩
          rw [List.all_eq_true]
          constructor
          · intro h
            refine ⟨x, rfl, g1, g2, fun c e => ?_, fun c hc => ?_⟩
            · rw [first] at e
              cases e
              exact m
            · have := h c hc
              rcases Bool.or_eq_true_iff.mp this with h | h
              · exact .inl (of_decide_eq_true h)
              · exact .inr (of_decide_eq_true h)
          · rintro ⟨y, e, n⟩ c hc
            cases e
            rcases n.2.2.2 c hc with h | h
            · exact Bool.or_eq_true_iff.mpr (.inl (decide_eq_true h))
            · exact Bool.or_eq_true_iff.mpr (.inr (decide_eq_true h))
        · refine iteN (decide_eq_false m) (q false _ ⟨fun h => (by cases h), fun ⟨y, e, n⟩ => ?_⟩ (.refl H))
          cases e
          exact (m (n.2.2.1 _ first)).elim
      · refine iteC (by rw [decide_eq_false (by omega)]; rfl) ?_
        refine q false _ ⟨fun h => (by cases h), fun ⟨y, e, n⟩ => ?_⟩ (.refl H)
        cases e
        exact (g2 n.2.1).elim
    · refine ⟨_, rfl, iteC rfl ?_⟩
      refine q false _ ⟨fun h => (by cases h), fun ⟨y, e, n⟩ => absurd (decide_eq_true ?_) g1⟩ (.refl H)
      cases e
      have := n.1
      omega

def sp_check_name [Tabl] (C : Addr) (_ : PySem.W.Frag) : Sp := fun vs H Q E => ∃ v : V, vs = [v] ∧ Shal H v ∧ Good H ∧ (NameV v → ∀ H' : Hp, Same H H' → Q v H') ∧ (¬ NameV v → Raised H C v E)
theorem ok_check_name (T : Txt K mg base) : FnOk P w K mg base (L2.CX P w) (3 + 1) T.f_check_name T.fd_check_name ["name"] (sp_check_name T.C_BadName K) := by
  refine T.F_check_name.okX sc_check_name (fun vs H Q E h => ?_) (fun cdv A outer s H vs Q E hr h => ?_)
  · obtain ⟨z, rfl, _⟩ := h
    rfl
  · obtain ⟨v, rfl, sv, good, q, qe⟩ := h
    refine ⟨_, (pss_cons (ps_if (pt_not (pt_val (pe_call (ok_is_name T) (hr.mono (by first | decide | exact Nat.le_refl _)) (by rfl) T.g_is_name T.F_is_name.kp T.b_is_name .nil pass0 (pa_cons (pv 0) pa_nil)))) (pss_one (ps_raise rfl (takes_of rfl rfl rfl rfl) (pmk_err1 T.E_BadName T.iI_BadName T.tI_BadName T.no_BadName_value (ok_init1 (k := 0) (p4 := ⟨0, 0, 0, 0⟩) T.FI_BadName sci_BadName (by decide) rfl) (hr.mono (by first | decide | exact Nat.le_refl _)) T.bI_BadName pass0 (pa_cons (pv 0) pa_nil)))) pss_nil)
      (pss_one (ps_ret (pv 0)))), ?_⟩
    refine ⟨_, rfl, v, rfl, sv, good, fun b H1 hb s1 => ⟨_, rfl, ?_⟩⟩
    cases b with
    | true => exact iteF ⟨_, rfl, q (hb.mp rfl) H1 s1⟩
    | false => exact iteC rfl ⟨_, rfl, _, rfl, fun d nd => qe (fun h => by cases hb.mpr h) d H1 _ s1 nd rfl⟩

theorem ok_law (T : Txt K mg base) : FnOk P w K mg base CX0 (14 + 1) T.f_law T.fd_law ["script"] (sp_law K) := by
  refine T.F_law.ok sc_law (fun vs H Q E h => ?_) (fun A outer s H vs Q E hr h => ?_)
  · obtain ⟨a, ns, rfl, _⟩ := h
    rfl
  · obtain ⟨sc, ns, rfl, hS, hlen, good, q⟩ := h
    refine ⟨_, (pss_cons (ps_set (i := 1) sc_law.nd rfl (.inl rfl) (pe_call (ok_store T) (hr.mono (by first | decide | exact Nat.le_refl _)) (by rfl) T.g_store T.F_store.kp T.b_store .nil pass0 (pa_cons (pv 0) pa_nil)))
      (pss_cons (ps_set (i := 2) sc_law.nd rfl (.inl rfl) (pe_call (ok_letters T) (hr.mono (by first | decide | exact Nat.le_refl _)) (by rfl) T.g_letters T.F_letters.kp T.b_letters .nil pass0 (pa_cons (pv 1) (pa_cons pe_int pa_nil))))
      (pss_cons (ps_set (i := 3) sc_law.nd rfl (.inl rfl) (pe_call (ok_not_letters T) (hr.mono (by first | decide | exact Nat.le_refl _)) (by rfl) T.g_not_letters T.F_not_letters.kp T.b_not_letters .nil pass0 (pa_cons (pv 1) pa_nil)))
      (C8.pss_cut (ps_if (pt_cmpR op_eq (pe_call (ok_take T) (hr.mono (by first | decide | exact Nat.le_refl _)) (by rfl) T.g_take T.F_take.kp T.b_take .nil pass0 (pa_cons (pv 1) (pa_cons pe_int pa_nil))) pe_int (nomark _)) (pss_one (ps_set (i := 3) sc_law.nd rfl (.inl rfl) (pe_call (ok_any T) (hr.mono (by first | decide | exact Nat.le_refl _)) (by rfl) T.g_any T.F_any.kp T.b_any .nil pass0 (pa_cons (pv 1) pa_nil)))) pss_nil)
      (pss_cons (ps_set (i := 4) sc_law.nd rfl (.inl rfl) (pe_call (ok_word_values T) (hr.mono (by first | decide | exact Nat.le_refl _)) (by rfl) T.g_word_values T.F_word_values.kp T.b_word_values .nil pass0 (pa_cons (pv 1) (pa_cons (pv 2) pa_nil))))
      (pss_cons (ps_set (i := 5) sc_law.nd rfl (.inl rfl) (pe_lst (pa_cons (pe_call (ok_name T) (hr.mono (by first | decide | exact Nat.le_refl _)) (by rfl) T.g_name T.F_name.kp T.b_name .nil pass0 (pa_cons (pv 1) pa_nil)) (pa_cons (pe_call (ok_not_name T) (hr.mono (by first | decide | exact Nat.le_refl _)) (by rfl) T.g_not_name T.F_not_name.kp T.b_not_name .nil pass0 (pa_cons (pv 1) pa_nil)) (pa_cons (pe_call (ok_name T) (hr.mono (by first | decide | exact Nat.le_refl _)) (by rfl) T.g_name T.F_name.kp T.b_name .nil pass0 (pa_cons (pv 1) pa_nil)) (pa_cons (pe_call (ok_any T) (hr.mono (by first | decide | exact Nat.le_refl _)) (by rfl) T.g_any T.F_any.kp T.b_any .nil pass0 (pa_cons (pv 1) pa_nil)) pa_nil))))))
      (pss_cons (ps_set (i := 6) sc_law.nd rfl (.inl rfl) (pe_call (ok_copy T) (hr.mono (by first | decide | exact Nat.le_refl _)) (by rfl) T.g_copy T.F_copy.kp T.b_copy .nil pass0 (pa_cons (pe_lst (pa_cons (pv 3) (pa_cons (pv 4) (pa_cons (pv 5) pa_nil)))) pa_nil)))
      (pss_cons (ps_for PassesOwn.never rfl (pi_list (pe_lst (pa_cons (pv 2) (pa_cons (pv 3) (pa_cons (pe_call (ok_letters T) (hr.mono (by first | decide | exact Nat.le_refl _)) (by rfl) T.g_letters T.F_letters.kp T.b_letters .nil pass0 (pa_cons (pv 1) (pa_cons pe_int pa_nil))) (pa_cons (pe_call (ok_any T) (hr.mono (by first | decide | exact Nat.le_refl _)) (by rfl) T.g_any T.F_any.kp T.b_any .nil pass0 (pa_cons (pv 1) pa_nil)) pa_nil)))))) (pg_name (i := 8) sc_law.nd rfl (.inr rfl)) (pss_one (ps_if (pt_not (pt_val (pe_lam4 (k := 10) T.F_one_checked T.b_one_checked sc_one_checked (fun cdg => passes_one_checked T _ _ _ _ _ _ _ _ _ _ cdg) T.F_gave T.b_gave sc_gave (fun _ _ _ cdy => gives_gave T _ _ _ _ _ _ _ _ _ _ cdy) T.g_gave T.B_law T.m_law rfl (hr.mono (by decide)) (LamX.lamS_by (sc := defScope s_law) (by decide +kernel)) T.g_one_checked (fun A outer s H E f c hr2 => pe_callS (ok_check_letters T) (hr2.mono (by decide)) (by rfl) T.g_check_letters T.F_check_letters.kp T.b_check_letters (fun σ => passAt (takes_of rfl rfl rfl rfl) σ) (pa_cons (pv 8) pa_nil)) (pv 8) (pe_call (ok_good_letters T) (hr.mono (by first | decide | exact Nat.le_refl _)) (by rfl) T.g_good_letters T.F_good_letters.kp T.b_good_letters .nil pass0 (pa_cons (pv 8) pa_nil)) pe_str))) (pss_one (ps_ret pe_bl)) pss_nil)))
      (pss_cons (ps_for PassesOwn.never rfl (pi_list (pe_op op_cat (pv 4) (pv 4))) (pg_name (i := 8) sc_law.nd rfl (.inr rfl)) (pss_one (ps_if (PW.pt (pw_or (pt_not (pt_val (pe_call (ok_words_checked T) (hr.mono (by first | decide | exact Nat.le_refl _)) (by rfl) T.g_words_checked T.F_words_checked.kp T.b_words_checked .nil pass0 (pa_cons (pv 2) (pa_cons (pv 8) pa_nil))))) (pw_or1 (pt_not (pt_val (pe_call (ok_words_checked T) (hr.mono (by first | decide | exact Nat.le_refl _)) (by rfl) T.g_words_checked T.F_words_checked.kp T.b_words_checked .nil pass0 (pa_cons (pv 3) (pa_cons (pv 8) pa_nil)))))))) (pss_one (ps_ret pe_bl)) pss_nil)))
      (pss_cons (ps_if (pt_not (pt_val (pe_call (ok_words_checked T) (hr.mono (by first | decide | exact Nat.le_refl _)) (by rfl) T.g_words_checked T.F_words_checked.kp T.b_words_checked .nil pass0 (pa_cons (pe_call (ok_letters T) (hr.mono (by first | decide | exact Nat.le_refl _)) (by rfl) T.g_letters T.F_letters.kp T.b_letters .nil pass0 (pa_cons (pv 1) (pa_cons pe_int pa_nil))) (pa_cons (pe_ix ix_list (pv 4) pe_int (fun _ _ => rfl)) pa_nil))))) (pss_one (ps_ret pe_bl)) pss_nil)
      (pss_cons (ps_for PassesOwn.never rfl (pi_list (pe_op op_cat (pv 5) (pv 5))) (pg_name (i := 7) sc_law.nd rfl (.inr rfl)) (pss_one (ps_if (pt_not (pt_val (pe_lam4 (k := 10) T.F_one_checked T.b_one_checked sc_one_checked (fun cdg => passes_one_checked T _ _ _ _ _ _ _ _ _ _ cdg) T.F_gave T.b_gave sc_gave (fun _ _ _ cdy => gives_gave T _ _ _ _ _ _ _ _ _ _ cdy) T.g_gave T.B_law T.m_law rfl (hr.mono (by decide)) (LamX.lamS_by (sc := defScope s_law) (by decide +kernel)) T.g_one_checked (fun A outer s H E f c hr2 => pe_callS (ok_check_name T) (hr2.mono (by decide)) (by rfl) T.g_check_name T.F_check_name.kp T.b_check_name (fun σ => passAt (takes_of rfl rfl rfl rfl) σ) (pa_cons (pv 7) pa_nil)) (pv 7) (pe_call (ok_good_name T) (hr.mono (by first | decide | exact Nat.le_refl _)) (by rfl) T.g_good_name T.F_good_name.kp T.b_good_name .nil pass0 (pa_cons (pv 7) pa_nil)) pe_str))) (pss_one (ps_ret pe_bl)) pss_nil)))
      (pss_cons (ps_for PassesOwn.never rfl (pi_list (pe_lst (pa_cons (pe_call (ok_take T) (hr.mono (by first | decide | exact Nat.le_refl _)) (by rfl) T.g_take T.F_take.kp T.b_take .nil pass0 (pa_cons (pv 1) (pa_cons pe_int pa_nil))) (pa_cons (pe_call (ok_not_number T) (hr.mono (by first | decide | exact Nat.le_refl _)) (by rfl) T.g_not_number T.F_not_number.kp T.b_not_number .nil pass0 (pa_cons (pv 1) (pa_cons pe_int (pa_cons pe_int pa_nil)))) (pa_cons (pe_op op_sub (pe_un un_neg pe_int) (pe_call (ok_take T) (hr.mono (by first | decide | exact Nat.le_refl _)) (by rfl) T.g_take T.F_take.kp T.b_take .nil pass0 (pa_cons (pv 1) (pa_cons pe_int pa_nil)))) (pa_cons pe_bl (pa_cons pe_int pa_nil))))))) (pg_name (i := 8) sc_law.nd rfl (.inr rfl)) (pss_one (ps_if (PW.pt (pw_or (pt_not (pt_val (pe_call (ok_numbers_checked T) (hr.mono (by first | decide | exact Nat.le_refl _)) (by rfl) T.g_numbers_checked T.F_numbers_checked.kp T.b_numbers_checked .nil pass0 (pa_cons (pv 2) (pa_cons (pv 8) pa_nil))))) (pw_or1 (pt_not (pt_val (pe_call (ok_numbers_checked T) (hr.mono (by first | decide | exact Nat.le_refl _)) (by rfl) T.g_numbers_checked T.F_numbers_checked.kp T.b_numbers_checked .nil pass0 (pa_cons (pv 3) (pa_cons (pv 8) pa_nil)))))))) (pss_one (ps_ret pe_bl)) pss_nil)))
      (pss_one (ps_ret (pe_call (ok_sameB T) (hr.mono (by first | decide | exact Nat.le_refl _)) (by rfl) T.g_same T.F_same.kp T.b_same .nil pass0 (pa_cons (pe_lst (pa_cons (pv 3) (pa_cons (pv 4) (pa_cons (pv 5) pa_nil)))) (pa_cons (pv 6) pa_nil))))))))))))))))), ?_⟩
    -- store, letters, bad
    refine ⟨_, rfl, sc, ns, rfl, hS, hlen, fun a ca H1 s1 na S1 => ?_⟩
    refine ⟨_, rfl, a, ca, 4, rfl, S1, fun z H2 az B2 S2 => ?_⟩
    refine ⟨_, rfl, a, ca, rfl, S2, fun v0 H3 d3 B3 S3 => ?_⟩
    have B03 : But a H1 H3 := B2.trans B3
    refine ⟨fun σ' H' => ∃ v : V, σ' = [some (.ref sc), some (.ref a), some (.str z), some v, none, none, none, none, none] ∧ Deep a 6 H' v ∧ But a H1 H' ∧ Sto H' a ca, ?_, ?_⟩
    · refine ⟨_, rfl, a, ca, 3, rfl, S3, by decide, fun e H4 e0 e1 B4 S4 => ⟨rfl, _, rfl, ite2 (fun _ => ?_) (fun _ => ⟨v0, rfl, (d3.but B4).le (by decide), B03.trans B4, S4⟩)⟩⟩
      exact ⟨_, rfl, a, ca, rfl, S4, fun v H5 d5 B5 S5 => ⟨v, rfl, d5, (B03.trans B4).trans B5, S5⟩⟩
    rintro σ' H4 ⟨v, rfl, dv, B4, S4⟩
    refine ⟨_, rfl, _, rfl, a, ca, z, rfl, S4, az, fun lv xs H5 lva hlv x0 x5 dx B5 S5 => ?_⟩
    refine ⟨_, rfl, a, ca, rfl, S5, fun n1 H6 ln1 B6 S6 => ⟨_, rfl, a, ca, rfl, S6, fun n2 H7 dn2 B7 S7 => ⟨_, rfl, a, ca, rfl, S7, fun n3 H8 ln3 B8 S8 => ⟨_, rfl, a, ca, rfl, S8, fun n4 H9 dn4 B9 S9 => ⟨by show 4 ≤ sizeLine; decide, fun ln nn => ?_⟩⟩⟩⟩⟩
    have lna := (S9.ne nn).1
    have k10 := same_new (o := .lst [.str n1, n2, .str n3, n4]) nn
    have hln : (upd H9 ln (.lst [.str n1, n2, .str n3, n4])) ln = some (.lst [.str n1, n2, .str n3, n4]) := upd_same
    have S10 := S9.new (o := .lst [.str n1, n2, .str n3, n4]) nn
    generalize upd H9 ln (.lst [.str n1, n2, .str n3, n4]) = H10 at k10 hln S10 ⊢
    have B510 : But a H5 H10 := ((B6.trans B7).trans (B8.trans B9)).trans (But.same k10)
    have B110 : But a H1 H10 := (B4.trans B5).trans B510
    have dv10 := (dv.but B5).but B510
    have hlv10 := B510 _ _ lva hlv
    have dx10 : ∀ x ∈ xs, Deep a 6 H10 x := fun x m => (dx x m).but B510
    have dy10 : ∀ y ∈ [V.str n1, n2, .str n3, n4], Deep a 6 H10 y := List.forall_mem_cons.mpr ⟨deep_str (by omega), List.forall_mem_cons.mpr ⟨(((dn2.but B8).but B9).same k10).le (by decide), List.forall_mem_cons.mpr ⟨deep_str (by omega), List.forall_mem_cons.mpr ⟨dn4.same k10, fun y m => absurd m List.not_mem_nil⟩⟩⟩⟩
    refine ⟨_, rfl, _, rfl, _, rfl, by show 3 ≤ sizeLine; decide, fun lo no => ?_⟩
    have loa := (S10.ne no).1
    have k11 := same_new (o := .lst [v, .ref lv, .ref ln]) no
    have hlo : (upd H10 lo (.lst [v, .ref lv, .ref ln])) lo = some (.lst [v, .ref lv, .ref ln]) := upd_same
    have S11 := S10.new (o := .lst [v, .ref lv, .ref ln]) no
    generalize upd H10 lo (.lst [v, .ref lv, .ref ln]) = H11 at k11 hlo S11 ⊢
    have three : ∀ {Hx : Hp}, But a H11 Hx → ∀ y ∈ [v, .ref lv, .ref ln], Deep a 8 Hx y := fun bx => by
      refine List.forall_mem_cons.mpr ⟨((dv10.same k11).but bx).le (by decide), List.forall_mem_cons.mpr ⟨?_, List.forall_mem_cons.mpr ⟨?_, fun y m => absurd m List.not_mem_nil⟩⟩⟩
      · exact (deep_lst lva (bx _ _ lva (k11 _ _ hlv10)) (by omega) fun x m => ((dx10 x m).same k11).but bx).le (by decide : 7 ≤ 8)
      · exact (deep_lst lna (bx _ _ lna (k11 _ _ hln)) (by show 4 ≤ 1000000; decide) fun x m => ((dy10 x m).same k11).but bx).le (by decide : 7 ≤ 8)
    have dlo : Deep a 9 H11 (.ref lo) := deep_lst loa hlo (by show 3 ≤ 1000000; decide) (three (But.refl H11))
    refine ⟨_, rfl, ⟨a, dlo⟩, fun u H12 s12 su du => ?_⟩
    have ua : Deep a 9 H12 u := du a (by obtain ⟨ns, i, b, t, s, h1, _⟩ := S11; rw [h1]; exact fun z => by cases z) dlo
    have S12 := S11.same s12
    have B11' : But a H11 H12 := But.same s12
    have g12 : Good H12 := (B110.trans (But.same (k11.trans s12))).good (s1.good good)
    -- check_letters
    refine ⟨_, rfl, _, rfl, _, rfl, a, ca, 4, rfl, S12, fun z2 H13 az2 B13 S13 => ⟨_, rfl, a, ca, rfl, S13, fun v5 H14 d5 B14 S14 => ⟨by show 4 ≤ sizeLine; decide, fun l1 nl1 => ?_⟩⟩⟩
    have k15 := same_new (o := .lst [.str z, v, .str z2, v5]) nl1
    have hl1 : (upd H14 l1 (.lst [.str z, v, .str z2, v5])) l1 = some (.lst [.str z, v, .str z2, v5]) := upd_same
    have S15 := S14.new (o := .lst [.str z, v, .str z2, v5]) nl1
    have B1215 : But a H12 (upd H14 l1 (.lst [.str z, v, .str z2, v5])) := (B13.trans B14).trans (But.same k15)
    have d15 : ∀ y ∈ [V.str z, v, .str z2, v5], Deep a 6 (upd H14 l1 (.lst [.str z, v, .str z2, v5])) y := List.forall_mem_cons.mpr ⟨deep_str az.small, List.forall_mem_cons.mpr ⟨((dv10.same (k11.trans s12)).but B1215), List.forall_mem_cons.mpr ⟨deep_str az2.small, List.forall_mem_cons.mpr ⟨d5.same k15, fun y m => absurd m List.not_mem_nil⟩⟩⟩⟩
    have g15 : Good (upd H14 l1 (.lst [.str z, v, .str z2, v5])) := B1215.good g12
    generalize upd H14 l1 (.lst [.str z, v, .str z2, v5]) = H15 at hl1 S15 B1215 d15 g15 ⊢
    refine ⟨l1, rfl, ⟨_, .inl (.inl hl1)⟩, for_list (K := K) (a := l1) (xs := [.str z, v, .str z2, v5]) (fun i σ H' => ∃ y : Option V, σ = [some (.ref sc), some (.ref a), some (.str z), some v, some (.ref lv), some (.ref ln), some u, none, y] ∧ Same H15 H') ⟨none, rfl, .refl H15⟩ (fun i σ H' _ h => (match h with | ⟨_, _, s⟩ => .inl (.inl (s _ _ hl1)))) ?_ ?_⟩
    · rintro i x σ H' hx ⟨y, rfl, sm⟩
      have dx := (d15 x (List.mem_of_getElem? hx)).same sm
      refine ⟨_, rfl, _, rfl, x, rfl, dx.shal, fun g hg => ⟨sm.good g15, fun H16 s16 => ?_⟩⟩
      have dx16 := dx.same s16
      have g16 := s16.good (sm.good g15)
      refine ⟨g, Str.ofString "BadLetters", rfl, rfl, by decide +kernel, g16, ⟨a, dx16.le (by decide)⟩, tellsZ T _ fun H2 E' Q' s2 val err => ?_, fun H17 s17 => ⟨_, rfl, iteF ⟨_, rfl, (sm.trans s16).trans s17⟩⟩⟩
      refine ⟨_, rfl, x, rfl, (dx16.same s2).shal, s2.good g16, fun al H3 s3 => val x H3 s3 ?_, fun na => err _ _ _ (.inl ⟨rfl, rfl⟩) ?_⟩
      · rw [hg.mpr al]
        rfl
      · cases g with
        | true => exact (na (hg.mp rfl)).elim
        | false => rfl
    rintro σ H16 ⟨y, rfl, s16⟩
    have g16 := s16.good g15
    have B1216 : But a H12 H16 := B1215.trans (But.same s16)
    have S16 := S15.same s16
    have B1116 : But a H11 H16 := B11'.trans B1216
    -- the words
    have hlv11 : H11 lv = some (.lst xs) := k11 _ _ hlv10
    have hln11 : H11 ln = some (.lst [.str n1, n2, .str n3, n4]) := k11 _ _ hln
    have itx : ∀ {Hx : Hp}, But a H11 Hx → ∀ x ∈ xs, Deep a 6 Hx x := fun bx x m => ((dx10 x m).same k11).but bx
    have ity : ∀ {Hx : Hp}, But a H11 Hx → ∀ x ∈ [V.str n1, n2, .str n3, n4], Deep a 6 Hx x := fun bx x m => ((dy10 x m).same k11).but bx
    have itv : ∀ {Hx : Hp}, But a H11 Hx → Deep a 6 Hx v := fun bx => (dv10.same k11).but bx
    refine next_to ?_
    refine ⟨_, rfl, _, rfl, lv, lv, xs, xs, rfl, rfl, B1116 _ _ lva hlv11, B1116 _ _ lva hlv11, small_text (by omega), fun l2 nl2 => ?_⟩
    have k17 := same_new (o := .lst (xs ++ xs)) nl2
    have hl2 : (upd H16 l2 (.lst (xs ++ xs))) l2 = some (.lst (xs ++ xs)) := upd_same
    generalize upd H16 l2 (.lst (xs ++ xs)) = H17 at k17 hl2 ⊢
    have B1117 := B1116.trans (But.same k17)
    have S17 := S16.same k17
    have g17 := k17.good g16
    refine ⟨l2, rfl, ⟨_, .inl (.inl hl2)⟩, for_list (K := K) (a := l2) (xs := xs ++ xs) (fun i σ H' => ∃ y : Option V, σ = [some (.ref sc), some (.ref a), some (.str z), some v, some (.ref lv), some (.ref ln), some u, none, y] ∧ Same H17 H') ⟨_, rfl, .refl H17⟩ (fun i σ H' _ h => (match h with | ⟨_, _, s⟩ => .inl (.inl (s _ _ hl2)))) ?_ ?_⟩
    · rintro i x σ H' hx ⟨y, rfl, sm⟩
      have mx : x ∈ xs := by
        rcases List.mem_append.mp (List.mem_of_getElem? hx) with m | m <;> exact m
      have bx := B1117.trans (But.same sm)
      refine ⟨_, rfl, _, rfl, .str z, x, rfl, ⟨a, deep_str az.small, (itx bx x mx).le (by decide)⟩, sm.good g17, fun H18 s18 => ⟨_, rfl, iteF ?_⟩⟩
      have bx2 := bx.trans (But.same s18)
      exact ⟨_, rfl, _, rfl, v, x, rfl, ⟨a, (itv bx2).le (by decide), (itx bx2 x mx).le (by decide)⟩, s18.good (sm.good g17), fun H19 s19 => ⟨_, rfl, iteF ⟨_, rfl, (sm.trans s18).trans s19⟩⟩⟩
    rintro σ H18 ⟨y2, rfl, s18⟩
    have B1118 := B1117.trans (But.same s18)
    have S18 := S17.same s18
    have g18 := s18.good g17
    have hx0 : xs[0]? = some xs[0] := List.getElem?_eq_getElem x0
    refine next_to ?_
    refine ⟨_, rfl, a, ca, 4, rfl, S18, fun z3 H19 az3 B19 S19 => ?_⟩
    have B1119 := B1118.trans B19
    have g19 := B19.good g18
    refine ⟨_, rfl, lv, xs, _, xs[0], rfl, rfl, .inl (.inl (B1119 _ _ lva hlv11)), atI_nat (j := 0) hx0, .str z3, xs[0], rfl, ⟨a, deep_str az3.small, (itx B1119 _ (List.getElem_mem _)).le (by decide)⟩, g19, fun H20 s20 => ⟨_, rfl, iteF ?_⟩⟩
    have B1120 := B1119.trans (But.same s20)
    have S20 := S19.same s20
    have g20 := s20.good g19
    -- the names
    refine next_to ?_
    refine ⟨_, rfl, _, rfl, ln, ln, _, _, rfl, rfl, B1120 _ _ lna hln11, B1120 _ _ lna hln11, by show 4 + 4 ≤ sizeLine; decide, fun l3 nl3 => ?_⟩
    have k21 := same_new (o := .lst ([.str n1, n2, .str n3, n4] ++ [.str n1, n2, .str n3, n4])) nl3
    have hl3 : (upd H20 l3 (.lst ([.str n1, n2, .str n3, n4] ++ [.str n1, n2, .str n3, n4]))) l3 = some (.lst ([.str n1, n2, .str n3, n4] ++ [.str n1, n2, .str n3, n4])) := upd_same
    generalize upd H20 l3 (.lst ([.str n1, n2, .str n3, n4] ++ [.str n1, n2, .str n3, n4])) = H21 at k21 hl3 ⊢
    have B1121 := B1120.trans (But.same k21)
    have S21 := S20.same k21
    have g21 := k21.good g20
    refine ⟨l3, rfl, ⟨_, .inl (.inl hl3)⟩, for_list (K := K) (a := l3) (xs := [.str n1, n2, .str n3, n4] ++ [.str n1, n2, .str n3, n4]) (fun i σ H' => ∃ y y' : Option V, σ = [some (.ref sc), some (.ref a), some (.str z), some v, some (.ref lv), some (.ref ln), some u, y', y] ∧ Same H21 H') ⟨_, none, rfl, .refl H21⟩ (fun i σ H' _ h => (match h with | ⟨_, _, _, s⟩ => .inl (.inl (s _ _ hl3)))) ?_ ?_⟩
    · rintro i x σ H' hx ⟨y, y', rfl, sm⟩
      have mx : x ∈ [V.str n1, n2, .str n3, n4] := by
        rcases List.mem_append.mp (List.mem_of_getElem? hx) with m | m <;> exact m
      have dx := ity (B1121.trans (But.same sm)) x mx
      refine ⟨_, rfl, _, rfl, x, rfl, dx.shal, fun g hg => ⟨sm.good g21, fun H22 s22 => ?_⟩⟩
      have dx22 := dx.same s22
      have g22 := s22.good (sm.good g21)
      refine ⟨g, Str.ofString "BadName", rfl, rfl, by decide +kernel, g22, ⟨a, dx22.le (by decide)⟩, tellsZ T _ fun H2 E' Q' s2 val err => ?_, fun H23 s23 => ⟨_, rfl, iteF ⟨_, _, rfl, (sm.trans s22).trans s23⟩⟩⟩
      refine ⟨_, rfl, x, rfl, (dx22.same s2).shal, s2.good g22, fun al H3 s3 => val x H3 s3 ?_, fun na => err _ _ _ (.inr (.inr (.inr ⟨rfl, rfl⟩))) ?_⟩
      · rw [hg.mpr al]
        rfl
      · cases g with
        | true => exact (na (hg.mp rfl)).elim
        | false => rfl
    rintro σ H22 ⟨y3, y4, rfl, s22⟩
    have B1122 := B1121.trans (But.same s22)
    have S22 := S21.same s22
    have g22 := s22.good g21
    -- the numbers
    refine next_to ?_
    have bnd : ∀ i : Int, i.natAbs < 2 ^ 40 → i.natAbs < 2 ^ 13000 := fun i h => Nat.lt_of_lt_of_le h (Nat.pow_le_pow_right (by decide) (by decide))
    refine ⟨_, rfl, a, ca, 5, rfl, S22, by decide, fun t1 H23 t10 t11 B23 S23 => ⟨_, rfl, a, ca, rfl, S23, fun v6 H24 d6 B24 S24 => ?_⟩⟩
    refine ⟨_, rfl, _, rfl, a, ca, 8, rfl, S24, by decide, fun t2 H25 t20 t21 B25 S25 => ⟨_, _, rfl, rfl, by show 5 ≤ sizeLine; decide, fun l4 nl4 => ?_⟩⟩
    have k26 := same_new (o := .lst [.int t1, v6, .int (-1 - t2), .bl true, .int 7]) nl4
    have hl4 : (upd H25 l4 (.lst [.int t1, v6, .int (-1 - t2), .bl true, .int 7])) l4 = some (.lst [.int t1, v6, .int (-1 - t2), .bl true, .int 7]) := upd_same
    have S26 := S25.new (o := .lst [.int t1, v6, .int (-1 - t2), .bl true, .int 7]) nl4
    have d26 : ∀ y ∈ [V.int t1, v6, .int (-1 - t2), .bl true, .int 7], Deep a 1 (upd H25 l4 (.lst [.int t1, v6, .int (-1 - t2), .bl true, .int 7])) y :=
      List.forall_mem_cons.mpr ⟨deep_int (bnd _ (by omega)), List.forall_mem_cons.mpr ⟨(d6.but B25).same k26, List.forall_mem_cons.mpr ⟨deep_int (bnd _ (by omega)), List.forall_mem_cons.mpr ⟨deep_bl, List.forall_mem_cons.mpr ⟨deep_int (bnd _ (by decide)), fun y m => absurd m List.not_mem_nil⟩⟩⟩⟩⟩
    have B1126 : But a H11 (upd H25 l4 (.lst [.int t1, v6, .int (-1 - t2), .bl true, .int 7])) := ((B1122.trans B23).trans (B24.trans B25)).trans (But.same k26)
    have g26 : Good (upd H25 l4 (.lst [.int t1, v6, .int (-1 - t2), .bl true, .int 7])) := ((B23.trans (B24.trans B25)).trans (But.same k26)).good g22
    generalize upd H25 l4 (.lst [.int t1, v6, .int (-1 - t2), .bl true, .int 7]) = H26 at k26 hl4 S26 d26 B1126 g26 ⊢
    refine ⟨l4, rfl, ⟨_, .inl (.inl hl4)⟩, for_list (K := K) (a := l4) (xs := [.int t1, v6, .int (-1 - t2), .bl true, .int 7]) (fun i σ H' => ∃ y y' : Option V, σ = [some (.ref sc), some (.ref a), some (.str z), some v, some (.ref lv), some (.ref ln), some u, y', y] ∧ Same H26 H') ⟨_, _, rfl, .refl H26⟩ (fun i σ H' _ h => (match h with | ⟨_, _, _, s⟩ => .inl (.inl (s _ _ hl4)))) ?_ ?_⟩
    · rintro i x σ H' hx ⟨y, y', rfl, sm⟩
      have dx := (d26 x (List.mem_of_getElem? hx)).same sm
      have bx := B1126.trans (But.same sm)
      refine ⟨_, rfl, _, rfl, .str z, x, rfl, ⟨a, deep_str az.small, dx⟩, sm.good g26, fun H27 s27 => ⟨_, rfl, iteF ?_⟩⟩
      exact ⟨_, rfl, _, rfl, v, x, rfl, ⟨a, itv (bx.trans (But.same s27)), dx.same s27⟩, s27.good (sm.good g26), fun H28 s28 => ⟨_, rfl, iteF ⟨_, _, rfl, (sm.trans s27).trans s28⟩⟩⟩
    rintro σ H27 ⟨y5, y6, rfl, s27⟩
    have B1127 := B1126.trans (But.same s27)
    -- all as it was
    refine ⟨_, rfl, _, rfl, _, rfl, by show 3 ≤ sizeLine; decide, fun lf nf => ?_⟩
    have hlf : (upd H27 lf (.lst [v, .ref lv, .ref ln])) lf = some (.lst [v, .ref lv, .ref ln]) := upd_same
    have k28 := same_new (o := .lst [v, .ref lv, .ref ln]) nf
    generalize upd H27 lf (.lst [v, .ref lv, .ref ln]) = H28 at hlf k28 ⊢
    have B1128 := B1127.trans (But.same k28)
    have B1228 : But a H12 H28 := B1216.trans ((But.same k17).trans ((But.same s18).trans (B19.trans ((But.same s20).trans ((But.same k21).trans ((But.same s22).trans (B23.trans (B24.trans (B25.trans ((But.same k26).trans ((But.same s27).trans (But.same k28))))))))))))
    have suE : SameD 9 H28 u (.ref lo) := su.put B1228 ua (dlo.same s12)
    have hloE : H28 lo = some (.lst [v, .ref lv, .ref ln]) := B1128 _ _ loa hlo
    have dlf : Deep a 9 H28 (.ref lf) := deep_lst ((S26.same s27).ne nf).1 hlf (by show 3 ≤ 1000000; decide) (three B1128)
    refine ⟨_, rfl, .ref lf, u, rfl, dlf.toN, (ua.but B1228).toN, fun b hb => ?_⟩
    have bt : b = true := hb.mpr ?_
    · subst bt
      exact q H28
    · rcases suE.symm with ⟨eu, pl⟩ | ⟨p', q', xs', ys', e1, e2, o, l, m, r⟩
      · rw [← eu] at pl
        cases pl
      · cases e1
        have ex : xs' = [v, .ref lv, .ref ln] := by
          rcases o with z | z
          · rw [hloE] at z
            cases z.1
          · rw [hloE] at z
            exact (HO.lst.inj (Option.some.inj z.1)).symm
        subst ex
        refine .inr ⟨lf, q', _, ys', rfl, e2, ?_, l, m, r⟩
        rcases o with z | z
        · rw [hloE] at z
          cases z.1
        · exact .inr ⟨hlf, z.2⟩

end
theorem all_mk {l : PySem.W.OpenLaw} {w : World} {K : PySem.W.Frag} {h : Heap} {mg : Str → Option Value} {names : List Str} {fa f0 f1 f2 f3 f4 f5 f6 f7 f8 f9 f10 f11 f12 f13 f14 f15 f16 f17 f18 f19 f20 f21 f22 f23 f24 f25 f26 f27 f28 f29 f30 f31 f32 f33 f34 f35 f36 f37 f38 f39 f40 f41 f42 f43 f44 f45 f46 : Addr} (X : K.In h) (G : h.Ns mainGlobals mg) (hfa : mg "law" = some (.ref fa)) (E : Empty names K mg h)
    {od0 an0 od1 an1 od2 an2 od3 an3 od4 an4 od5 an5 od6 an6 od7 an7 od8 an8 od9 an9 od10 an10 od11 an11 od12 an12 od13 an13 od14 an14 od15 an15 od16 an16 od17 an17 od18 an18 od19 an19 od20 an20 od21 an21 od22 an22 od23 an23 od24 an24 od25 an25 od26 an26 od27 an27 od28 an28 od29 an29 od30 an30 od31 an31 od32 an32 od33 an33 od34 an34 od35 an35 od36 an36 od37 an37 od38 an38 od39 an39 od40 an40 od41 an41 od42 an42 od43 an43 od44 an44 od45 an45 od46 an46 : Option Addr} {sl0 sl1 sl2 sl3 sl4 sl5 sl6 sl7 sl8 sl9 sl10 sl11 sl12 sl13 sl14 sl15 sl16 sl17 sl18 sl19 sl20 sl21 sl22 sl23 sl24 sl25 sl26 sl27 sl28 sl29 sl30 sl31 sl32 sl33 sl34 sl35 sl36 sl37 sl38 sl39 sl40 sl41 sl42 sl43 sl44 sl45 sl46 : Array (Option Value)} {oc0 kV0 dc0 pm0 ct0 cd0 oc1 kV1 dc1 pm1 ct1 cd1 oc2 kV2 dc2 pm2 ct2 cd2 oc3 kV3 dc3 pm3 ct3 oc4 kV4 dc4 pm4 ct4 oc5 kV5 dc5 pm5 ct5 cd5 oc6 kV6 dc6 pm6 ct6 oc7 kV7 dc7 pm7 ct7 cd7 oc8 kV8 dc8 pm8 ct8 cd8 oc9 kV9 dc9 pm9 ct9 cd9 oc10 kV10 dc10 pm10 ct10 cd10 oc11 kV11 dc11 pm11 ct11 cd11 oc12 kV12 dc12 pm12 ct12 cd12 oc13 kV13 dc13 pm13 ct13 cd13 oc14 kV14 dc14 pm14 ct14 cd14 oc15 kV15 dc15 pm15 ct15 cd15 oc16 kV16 dc16 pm16 ct16 cd16 oc17 kV17 dc17 pm17 ct17 cd17 oc18 kV18 dc18 pm18 ct18 cd18 oc19 kV19 dc19 pm19 ct19 cd19 oc20 kV20 dc20 pm20 ct20 cd20 oc21 kV21 dc21 pm21 ct21 cd21 oc22 kV22 dc22 pm22 ct22 cd22 oc23 kV23 dc23 pm23 ct23 cd23 oc24 kV24 dc24 pm24 ct24 cd24 oc25 kV25 dc25 pm25 ct25 cd25 oc26 kV26 dc26 pm26 ct26 cd26 oc27 kV27 dc27 pm27 ct27 cd27 oc28 kV28 dc28 pm28 ct28 cd28 oc29 kV29 dc29 pm29 ct29 cd29 oc30 kV30 dc30 pm30 ct30 cd30 oc31 kV31 dc31 pm31 ct31 cd31 oc32 kV32 dc32 pm32 ct32 cd32 oc33 kV33 dc33 pm33 ct33 cd33 oc34 kV34 dc34 pm34 ct34 cd34 oc35 kV35 dc35 pm35 ct35 cd35 oc36 kV36 dc36 pm36 ct36 cd36 oc37 kV37 dc37 pm37 ct37 cd37 oc38 kV38 dc38 pm38 ct38 cd38 oc39 kV39 dc39 pm39 ct39 cd39 oc40 kV40 dc40 pm40 ct40 cd40 oc41 kV41 dc41 pm41 ct41 cd41 oc42 kV42 dc42 pm42 ct42 oc43 kV43 dc43 pm43 ct43 oc44 kV44 dc44 pm44 ct44 cd44 oc45 kV45 dc45 pm45 ct45 cd45 oc46 kV46 dc46 pm46 ct46 : Value}
    {c3 P3 c4 P4 c6 P6 c42 P42 c43 P43 c46 P46 : Addr} {vd3 vd4 vd6 vd42 vd43 vd46 : Option Addr} {vl3 vl4 vl6 vl42 vl43 vl46 : Array (Option Value)} {vs3 vs4 vs6 vs42 vs43 vs46 : Array Value} {ve3 ve4 ve6 ve42 ve43 ve46 : Value}
    (a0 : PySem.W.nsIn K mainGlobals "is_whole" = some (some (.ref f0))) (l0 : K.lookup f0 = some ⟨oc0, od0, .func (PySem.W.fnOf "is_whole" "is_whole" (defArgs s_is_whole) (defBody s_is_whole) (defScope s_is_whole) .none kV0 dc0 pm0 an0 cd0 ct0), sl0⟩) (k0 : PySem.W.keepIn K (.ref f0) = true) (c_0 : PySem.W.codeIn K cd0 "is_whole" = true)
    (a1 : PySem.W.nsIn K mainGlobals "in_range" = some (some (.ref f1))) (l1 : K.lookup f1 = some ⟨oc1, od1, .func (PySem.W.fnOf "in_range" "in_range" (defArgs s_in_range) (defBody s_in_range) (defScope s_in_range) .none kV1 dc1 pm1 an1 cd1 ct1), sl1⟩) (k1 : PySem.W.keepIn K (.ref f1) = true) (c_1 : PySem.W.codeIn K cd1 "in_range" = true)
    (a2 : PySem.W.nsIn K mainGlobals "check_number" = some (some (.ref f2))) (l2 : K.lookup f2 = some ⟨oc2, od2, .func (PySem.W.fnOf "check_number" "check_number" (defArgs s_check_number) (defBody s_check_number) (defScope s_check_number) .none kV2 dc2 pm2 an2 cd2 ct2), sl2⟩) (k2 : PySem.W.keepIn K (.ref f2) = true) (c_2 : PySem.W.codeIn K cd2 "check_number" = true)
    (a3 : PySem.W.nsIn K mainGlobals "is_letters" = some (some (.ref f3))) (l3 : K.lookup f3 = some ⟨oc3, od3, .func (PySem.W.fnOf "is_letters" "is_letters" (defArgs s_is_letters) (defBody s_is_letters) (defScope s_is_letters) .none kV3 dc3 pm3 an3 (.ref c3) ct3), sl3⟩) (k3 : PySem.W.keepIn K (.ref f3) = true) (c_3 : PySem.W.codeIn K (.ref c3) "is_letters" = true)
    (r3 : K.lookup c3 = some ⟨ve3, vd3, .fields vs3, vl3⟩) (p3 : vs3[11]? = some (.ref P3)) (n3 : K.lookup P3 = none)
    (h3 : PySem.W.codeHdIn K c3 P3 = true) (y3 : Str.ofString "is_letters" ∈ names)
    (a4 : PySem.W.nsIn K mainGlobals "is_word" = some (some (.ref f4))) (l4 : K.lookup f4 = some ⟨oc4, od4, .func (PySem.W.fnOf "is_word" "is_word" (defArgs s_is_word) (defBody s_is_word) (defScope s_is_word) .none kV4 dc4 pm4 an4 (.ref c4) ct4), sl4⟩) (k4 : PySem.W.keepIn K (.ref f4) = true) (c_4 : PySem.W.codeIn K (.ref c4) "is_word" = true)
    (r4 : K.lookup c4 = some ⟨ve4, vd4, .fields vs4, vl4⟩) (p4 : vs4[11]? = some (.ref P4)) (n4 : K.lookup P4 = none)
    (h4 : PySem.W.codeHdIn K c4 P4 = true) (y4 : Str.ofString "is_word" ∈ names)
    (a5 : PySem.W.nsIn K mainGlobals "is_word_up_to" = some (some (.ref f5))) (l5 : K.lookup f5 = some ⟨oc5, od5, .func (PySem.W.fnOf "is_word_up_to" "is_word_up_to" (defArgs s_is_word_up_to) (defBody s_is_word_up_to) (defScope s_is_word_up_to) .none kV5 dc5 pm5 an5 cd5 ct5), sl5⟩) (k5 : PySem.W.keepIn K (.ref f5) = true) (c_5 : PySem.W.codeIn K cd5 "is_word_up_to" = true)
    (a6 : PySem.W.nsIn K mainGlobals "is_name" = some (some (.ref f6))) (l6 : K.lookup f6 = some ⟨oc6, od6, .func (PySem.W.fnOf "is_name" "is_name" (defArgs s_is_name) (defBody s_is_name) (defScope s_is_name) .none kV6 dc6 pm6 an6 (.ref c6) ct6), sl6⟩) (k6 : PySem.W.keepIn K (.ref f6) = true) (c_6 : PySem.W.codeIn K (.ref c6) "is_name" = true)
    (r6 : K.lookup c6 = some ⟨ve6, vd6, .fields vs6, vl6⟩) (p6 : vs6[11]? = some (.ref P6)) (n6 : K.lookup P6 = none)
    (h6 : PySem.W.codeHdIn K c6 P6 = true) (y6 : Str.ofString "is_name" ∈ names)
    (a7 : PySem.W.nsIn K mainGlobals "check_letters" = some (some (.ref f7))) (l7 : K.lookup f7 = some ⟨oc7, od7, .func (PySem.W.fnOf "check_letters" "check_letters" (defArgs s_check_letters) (defBody s_check_letters) (defScope s_check_letters) .none kV7 dc7 pm7 an7 cd7 ct7), sl7⟩) (k7 : PySem.W.keepIn K (.ref f7) = true) (c_7 : PySem.W.codeIn K cd7 "check_letters" = true)
    (a8 : PySem.W.nsIn K mainGlobals "check_word" = some (some (.ref f8))) (l8 : K.lookup f8 = some ⟨oc8, od8, .func (PySem.W.fnOf "check_word" "check_word" (defArgs s_check_word) (defBody s_check_word) (defScope s_check_word) .none kV8 dc8 pm8 an8 cd8 ct8), sl8⟩) (k8 : PySem.W.keepIn K (.ref f8) = true) (c_8 : PySem.W.codeIn K cd8 "check_word" = true)
    (a9 : PySem.W.nsIn K mainGlobals "check_name" = some (some (.ref f9))) (l9 : K.lookup f9 = some ⟨oc9, od9, .func (PySem.W.fnOf "check_name" "check_name" (defArgs s_check_name) (defBody s_check_name) (defScope s_check_name) .none kV9 dc9 pm9 an9 cd9 ct9), sl9⟩) (k9 : PySem.W.keepIn K (.ref f9) = true) (c_9 : PySem.W.codeIn K cd9 "check_name" = true)
    (a10 : PySem.W.nsIn K mainGlobals "all_words" = some (some (.ref f10))) (l10 : K.lookup f10 = some ⟨oc10, od10, .func (PySem.W.fnOf "all_words" "all_words" (defArgs s_all_words) (defBody s_all_words) (defScope s_all_words) .none kV10 dc10 pm10 an10 cd10 ct10), sl10⟩) (k10 : PySem.W.keepIn K (.ref f10) = true) (c_10 : PySem.W.codeIn K cd10 "all_words" = true)
    (a11 : PySem.W.nsIn K mainGlobals "word_index" = some (some (.ref f11))) (l11 : K.lookup f11 = some ⟨oc11, od11, .func (PySem.W.fnOf "word_index" "word_index" (defArgs s_word_index) (defBody s_word_index) (defScope s_word_index) .none kV11 dc11 pm11 an11 cd11 ct11), sl11⟩) (k11 : PySem.W.keepIn K (.ref f11) = true) (c_11 : PySem.W.codeIn K cd11 "word_index" = true)
    (a12 : PySem.W.nsIn K mainGlobals "word_at" = some (some (.ref f12))) (l12 : K.lookup f12 = some ⟨oc12, od12, .func (PySem.W.fnOf "word_at" "word_at" (defArgs s_word_at) (defBody s_word_at) (defScope s_word_at) .none kV12 dc12 pm12 an12 cd12 ct12), sl12⟩) (k12 : PySem.W.keepIn K (.ref f12) = true) (c_12 : PySem.W.codeIn K cd12 "word_at" = true)
    (a13 : PySem.W.nsIn K mainGlobals "shown_word" = some (some (.ref f13))) (l13 : K.lookup f13 = some ⟨oc13, od13, .func (PySem.W.fnOf "shown_word" "shown_word" (defArgs s_shown_word) (defBody s_shown_word) (defScope s_shown_word) .none kV13 dc13 pm13 an13 cd13 ct13), sl13⟩) (k13 : PySem.W.keepIn K (.ref f13) = true) (c_13 : PySem.W.codeIn K cd13 "shown_word" = true)
    (a14 : PySem.W.nsIn K mainGlobals "read_shown" = some (some (.ref f14))) (l14 : K.lookup f14 = some ⟨oc14, od14, .func (PySem.W.fnOf "read_shown" "read_shown" (defArgs s_read_shown) (defBody s_read_shown) (defScope s_read_shown) .none kV14 dc14 pm14 an14 cd14 ct14), sl14⟩) (k14 : PySem.W.keepIn K (.ref f14) = true) (c_14 : PySem.W.codeIn K cd14 "read_shown" = true)
    (a15 : PySem.W.nsIn K mainGlobals "_law_mix" = some (some (.ref f15))) (l15 : K.lookup f15 = some ⟨oc15, od15, .func (PySem.W.fnOf "_law_mix" "_law_mix" (defArgs s_mix) (defBody s_mix) (defScope s_mix) .none kV15 dc15 pm15 an15 cd15 ct15), sl15⟩) (k15 : PySem.W.keepIn K (.ref f15) = true) (c_15 : PySem.W.codeIn K cd15 "_law_mix" = true)
    (a16 : PySem.W.nsIn K mainGlobals "_law_store" = some (some (.ref f16))) (l16 : K.lookup f16 = some ⟨oc16, od16, .func (PySem.W.fnOf "_law_store" "_law_store" (defArgs s_store) (defBody s_store) (defScope s_store) .none kV16 dc16 pm16 an16 cd16 ct16), sl16⟩) (k16 : PySem.W.keepIn K (.ref f16) = true) (c_16 : PySem.W.codeIn K cd16 "_law_store" = true)
    (a17 : PySem.W.nsIn K mainGlobals "_law_take" = some (some (.ref f17))) (l17 : K.lookup f17 = some ⟨oc17, od17, .func (PySem.W.fnOf "_law_take" "_law_take" (defArgs s_take) (defBody s_take) (defScope s_take) .none kV17 dc17 pm17 an17 cd17 ct17), sl17⟩) (k17 : PySem.W.keepIn K (.ref f17) = true) (c_17 : PySem.W.codeIn K cd17 "_law_take" = true)
    (a18 : PySem.W.nsIn K mainGlobals "_law_pick" = some (some (.ref f18))) (l18 : K.lookup f18 = some ⟨oc18, od18, .func (PySem.W.fnOf "_law_pick" "_law_pick" (defArgs s_pick) (defBody s_pick) (defScope s_pick) .none kV18 dc18 pm18 an18 cd18 ct18), sl18⟩) (k18 : PySem.W.keepIn K (.ref f18) = true) (c_18 : PySem.W.codeIn K cd18 "_law_pick" = true)
    (a19 : PySem.W.nsIn K mainGlobals "_law_between" = some (some (.ref f19))) (l19 : K.lookup f19 = some ⟨oc19, od19, .func (PySem.W.fnOf "_law_between" "_law_between" (defArgs s_between) (defBody s_between) (defScope s_between) .none kV19 dc19 pm19 an19 cd19 ct19), sl19⟩) (k19 : PySem.W.keepIn K (.ref f19) = true) (c_19 : PySem.W.codeIn K cd19 "_law_between" = true)
    (a20 : PySem.W.nsIn K mainGlobals "_law_big" = some (some (.ref f20))) (l20 : K.lookup f20 = some ⟨oc20, od20, .func (PySem.W.fnOf "_law_big" "_law_big" (defArgs s_big) (defBody s_big) (defScope s_big) .none kV20 dc20 pm20 an20 cd20 ct20), sl20⟩) (k20 : PySem.W.keepIn K (.ref f20) = true) (c_20 : PySem.W.codeIn K cd20 "_law_big" = true)
    (a21 : PySem.W.nsIn K mainGlobals "_law_worn" = some (some (.ref f21))) (l21 : K.lookup f21 = some ⟨oc21, od21, .func (PySem.W.fnOf "_law_worn" "_law_worn" (defArgs s_worn) (defBody s_worn) (defScope s_worn) .none kV21 dc21 pm21 an21 cd21 ct21), sl21⟩) (k21 : PySem.W.keepIn K (.ref f21) = true) (c_21 : PySem.W.codeIn K cd21 "_law_worn" = true)
    (a22 : PySem.W.nsIn K mainGlobals "_law_no_text" = some (some (.ref f22))) (l22 : K.lookup f22 = some ⟨oc22, od22, .func (PySem.W.fnOf "_law_no_text" "_law_no_text" (defArgs s_no_text) (defBody s_no_text) (defScope s_no_text) .none kV22 dc22 pm22 an22 cd22 ct22), sl22⟩) (k22 : PySem.W.keepIn K (.ref f22) = true) (c_22 : PySem.W.codeIn K cd22 "_law_no_text" = true)
    (a23 : PySem.W.nsIn K mainGlobals "_law_not_number" = some (some (.ref f23))) (l23 : K.lookup f23 = some ⟨oc23, od23, .func (PySem.W.fnOf "_law_not_number" "_law_not_number" (defArgs s_not_number) (defBody s_not_number) (defScope s_not_number) .none kV23 dc23 pm23 an23 cd23 ct23), sl23⟩) (k23 : PySem.W.keepIn K (.ref f23) = true) (c_23 : PySem.W.codeIn K cd23 "_law_not_number" = true)
    (a24 : PySem.W.nsIn K mainGlobals "_law_letters" = some (some (.ref f24))) (l24 : K.lookup f24 = some ⟨oc24, od24, .func (PySem.W.fnOf "_law_letters" "_law_letters" (defArgs s_letters) (defBody s_letters) (defScope s_letters) .none kV24 dc24 pm24 an24 cd24 ct24), sl24⟩) (k24 : PySem.W.keepIn K (.ref f24) = true) (c_24 : PySem.W.codeIn K cd24 "_law_letters" = true)
    (a25 : PySem.W.nsIn K mainGlobals "_law_stranger" = some (some (.ref f25))) (l25 : K.lookup f25 = some ⟨oc25, od25, .func (PySem.W.fnOf "_law_stranger" "_law_stranger" (defArgs s_stranger) (defBody s_stranger) (defScope s_stranger) .none kV25 dc25 pm25 an25 cd25 ct25), sl25⟩) (k25 : PySem.W.keepIn K (.ref f25) = true) (c_25 : PySem.W.codeIn K cd25 "_law_stranger" = true)
    (a26 : PySem.W.nsIn K mainGlobals "_law_not_letters" = some (some (.ref f26))) (l26 : K.lookup f26 = some ⟨oc26, od26, .func (PySem.W.fnOf "_law_not_letters" "_law_not_letters" (defArgs s_not_letters) (defBody s_not_letters) (defScope s_not_letters) .none kV26 dc26 pm26 an26 cd26 ct26), sl26⟩) (k26 : PySem.W.keepIn K (.ref f26) = true) (c_26 : PySem.W.codeIn K cd26 "_law_not_letters" = true)
    (a27 : PySem.W.nsIn K mainGlobals "_law_word" = some (some (.ref f27))) (l27 : K.lookup f27 = some ⟨oc27, od27, .func (PySem.W.fnOf "_law_word" "_law_word" (defArgs s_word) (defBody s_word) (defScope s_word) .none kV27 dc27 pm27 an27 cd27 ct27), sl27⟩) (k27 : PySem.W.keepIn K (.ref f27) = true) (c_27 : PySem.W.codeIn K cd27 "_law_word" = true)
    (a28 : PySem.W.nsIn K mainGlobals "_law_long_word" = some (some (.ref f28))) (l28 : K.lookup f28 = some ⟨oc28, od28, .func (PySem.W.fnOf "_law_long_word" "_law_long_word" (defArgs s_long_word) (defBody s_long_word) (defScope s_long_word) .none kV28 dc28 pm28 an28 cd28 ct28), sl28⟩) (k28 : PySem.W.keepIn K (.ref f28) = true) (c_28 : PySem.W.codeIn K cd28 "_law_long_word" = true)
    (a29 : PySem.W.nsIn K mainGlobals "_law_not_word" = some (some (.ref f29))) (l29 : K.lookup f29 = some ⟨oc29, od29, .func (PySem.W.fnOf "_law_not_word" "_law_not_word" (defArgs s_not_word) (defBody s_not_word) (defScope s_not_word) .none kV29 dc29 pm29 an29 cd29 ct29), sl29⟩) (k29 : PySem.W.keepIn K (.ref f29) = true) (c_29 : PySem.W.codeIn K cd29 "_law_not_word" = true)
    (a30 : PySem.W.nsIn K mainGlobals "_law_not_read" = some (some (.ref f30))) (l30 : K.lookup f30 = some ⟨oc30, od30, .func (PySem.W.fnOf "_law_not_read" "_law_not_read" (defArgs s_not_read) (defBody s_not_read) (defScope s_not_read) .none kV30 dc30 pm30 an30 cd30 ct30), sl30⟩) (k30 : PySem.W.keepIn K (.ref f30) = true) (c_30 : PySem.W.codeIn K cd30 "_law_not_read" = true)
    (a31 : PySem.W.nsIn K mainGlobals "_law_name" = some (some (.ref f31))) (l31 : K.lookup f31 = some ⟨oc31, od31, .func (PySem.W.fnOf "_law_name" "_law_name" (defArgs s_name) (defBody s_name) (defScope s_name) .none kV31 dc31 pm31 an31 cd31 ct31), sl31⟩) (k31 : PySem.W.keepIn K (.ref f31) = true) (c_31 : PySem.W.codeIn K cd31 "_law_name" = true)
    (a32 : PySem.W.nsIn K mainGlobals "_law_not_name" = some (some (.ref f32))) (l32 : K.lookup f32 = some ⟨oc32, od32, .func (PySem.W.fnOf "_law_not_name" "_law_not_name" (defArgs s_not_name) (defBody s_not_name) (defScope s_not_name) .none kV32 dc32 pm32 an32 cd32 ct32), sl32⟩) (k32 : PySem.W.keepIn K (.ref f32) = true) (c_32 : PySem.W.codeIn K cd32 "_law_not_name" = true)
    (a33 : PySem.W.nsIn K mainGlobals "_law_same" = some (some (.ref f33))) (l33 : K.lookup f33 = some ⟨oc33, od33, .func (PySem.W.fnOf "_law_same" "_law_same" (defArgs s_same) (defBody s_same) (defScope s_same) .none kV33 dc33 pm33 an33 cd33 ct33), sl33⟩) (k33 : PySem.W.keepIn K (.ref f33) = true) (c_33 : PySem.W.codeIn K cd33 "_law_same" = true)
    (a34 : PySem.W.nsIn K mainGlobals "_law_copy" = some (some (.ref f34))) (l34 : K.lookup f34 = some ⟨oc34, od34, .func (PySem.W.fnOf "_law_copy" "_law_copy" (defArgs s_copy) (defBody s_copy) (defScope s_copy) .none kV34 dc34 pm34 an34 cd34 ct34), sl34⟩) (k34 : PySem.W.keepIn K (.ref f34) = true) (c_34 : PySem.W.codeIn K cd34 "_law_copy" = true)
    (a35 : PySem.W.nsIn K mainGlobals "_law_is_integer" = some (some (.ref f35))) (l35 : K.lookup f35 = some ⟨oc35, od35, .func (PySem.W.fnOf "_law_is_integer" "_law_is_integer" (defArgs s_is_integer) (defBody s_is_integer) (defScope s_is_integer) .none kV35 dc35 pm35 an35 cd35 ct35), sl35⟩) (k35 : PySem.W.keepIn K (.ref f35) = true) (c_35 : PySem.W.codeIn K cd35 "_law_is_integer" = true)
    (a36 : PySem.W.nsIn K mainGlobals "_law_is_word" = some (some (.ref f36))) (l36 : K.lookup f36 = some ⟨oc36, od36, .func (PySem.W.fnOf "_law_is_word" "_law_is_word" (defArgs s_lw_is_word) (defBody s_lw_is_word) (defScope s_lw_is_word) .none kV36 dc36 pm36 an36 cd36 ct36), sl36⟩) (k36 : PySem.W.keepIn K (.ref f36) = true) (c_36 : PySem.W.codeIn K cd36 "_law_is_word" = true)
    (a37 : PySem.W.nsIn K mainGlobals "_law_any" = some (some (.ref f37))) (l37 : K.lookup f37 = some ⟨oc37, od37, .func (PySem.W.fnOf "_law_any" "_law_any" (defArgs s_any) (defBody s_any) (defScope s_any) .none kV37 dc37 pm37 an37 cd37 ct37), sl37⟩) (k37 : PySem.W.keepIn K (.ref f37) = true) (c_37 : PySem.W.codeIn K cd37 "_law_any" = true)
    (a38 : PySem.W.nsIn K mainGlobals "_law_gave" = some (some (.ref f38))) (l38 : K.lookup f38 = some ⟨oc38, od38, .func (PySem.W.fnOf "_law_gave" "_law_gave" (defArgs s_gave) (defBody s_gave) (defScope s_gave) .none kV38 dc38 pm38 an38 cd38 ct38), sl38⟩) (k38 : PySem.W.keepIn K (.ref f38) = true) (c_38 : PySem.W.codeIn K cd38 "_law_gave" = true)
    (a39 : PySem.W.nsIn K mainGlobals "_law_good_letters" = some (some (.ref f39))) (l39 : K.lookup f39 = some ⟨oc39, od39, .func (PySem.W.fnOf "_law_good_letters" "_law_good_letters" (defArgs s_good_letters) (defBody s_good_letters) (defScope s_good_letters) .none kV39 dc39 pm39 an39 cd39 ct39), sl39⟩) (k39 : PySem.W.keepIn K (.ref f39) = true) (c_39 : PySem.W.codeIn K cd39 "_law_good_letters" = true)
    (a40 : PySem.W.nsIn K mainGlobals "_law_good_name" = some (some (.ref f40))) (l40 : K.lookup f40 = some ⟨oc40, od40, .func (PySem.W.fnOf "_law_good_name" "_law_good_name" (defArgs s_good_name) (defBody s_good_name) (defScope s_good_name) .none kV40 dc40 pm40 an40 cd40 ct40), sl40⟩) (k40 : PySem.W.keepIn K (.ref f40) = true) (c_40 : PySem.W.codeIn K cd40 "_law_good_name" = true)
    (a41 : PySem.W.nsIn K mainGlobals "_law_word_due" = some (some (.ref f41))) (l41 : K.lookup f41 = some ⟨oc41, od41, .func (PySem.W.fnOf "_law_word_due" "_law_word_due" (defArgs s_word_due) (defBody s_word_due) (defScope s_word_due) .none kV41 dc41 pm41 an41 cd41 ct41), sl41⟩) (k41 : PySem.W.keepIn K (.ref f41) = true) (c_41 : PySem.W.codeIn K cd41 "_law_word_due" = true)
    (a42 : PySem.W.nsIn K mainGlobals "_law_words_checked" = some (some (.ref f42))) (l42 : K.lookup f42 = some ⟨oc42, od42, .func (PySem.W.fnOf "_law_words_checked" "_law_words_checked" (defArgs s_words_checked) (defBody s_words_checked) (defScope s_words_checked) .none kV42 dc42 pm42 an42 (.ref c42) ct42), sl42⟩) (k42 : PySem.W.keepIn K (.ref f42) = true) (c_42 : PySem.W.codeIn K (.ref c42) "_law_words_checked" = true)
    (r42 : K.lookup c42 = some ⟨ve42, vd42, .fields vs42, vl42⟩) (p42 : vs42[11]? = some (.ref P42)) (n42 : K.lookup P42 = none)
    (h42 : PySem.W.codeHdIn K c42 P42 = true) (y42 : Str.ofString "_law_words_checked" ∈ names)
    (a43 : PySem.W.nsIn K mainGlobals "_law_numbers_checked" = some (some (.ref f43))) (l43 : K.lookup f43 = some ⟨oc43, od43, .func (PySem.W.fnOf "_law_numbers_checked" "_law_numbers_checked" (defArgs s_numbers_checked) (defBody s_numbers_checked) (defScope s_numbers_checked) .none kV43 dc43 pm43 an43 (.ref c43) ct43), sl43⟩) (k43 : PySem.W.keepIn K (.ref f43) = true) (c_43 : PySem.W.codeIn K (.ref c43) "_law_numbers_checked" = true)
    (r43 : K.lookup c43 = some ⟨ve43, vd43, .fields vs43, vl43⟩) (p43 : vs43[11]? = some (.ref P43)) (n43 : K.lookup P43 = none)
    (h43 : PySem.W.codeHdIn K c43 P43 = true) (y43 : Str.ofString "_law_numbers_checked" ∈ names)
    (a44 : PySem.W.nsIn K mainGlobals "_law_one_checked" = some (some (.ref f44))) (l44 : K.lookup f44 = some ⟨oc44, od44, .func (PySem.W.fnOf "_law_one_checked" "_law_one_checked" (defArgs s_one_checked) (defBody s_one_checked) (defScope s_one_checked) .none kV44 dc44 pm44 an44 cd44 ct44), sl44⟩) (k44 : PySem.W.keepIn K (.ref f44) = true) (c_44 : PySem.W.codeIn K cd44 "_law_one_checked" = true)
    (a45 : PySem.W.nsIn K mainGlobals "_law_word_values" = some (some (.ref f45))) (l45 : K.lookup f45 = some ⟨oc45, od45, .func (PySem.W.fnOf "_law_word_values" "_law_word_values" (defArgs s_word_values) (defBody s_word_values) (defScope s_word_values) .none kV45 dc45 pm45 an45 cd45 ct45), sl45⟩) (k45 : PySem.W.keepIn K (.ref f45) = true) (c_45 : PySem.W.codeIn K cd45 "_law_word_values" = true)
    (a46 : PySem.W.nsIn K mainGlobals "law" = some (some (.ref f46))) (l46 : K.lookup f46 = some ⟨oc46, od46, .func (PySem.W.fnOf "law" "law" (defArgs s_law) (defBody s_law) (defScope s_law) .none kV46 dc46 pm46 an46 (.ref c46) ct46), sl46⟩) (k46 : PySem.W.keepIn K (.ref f46) = true) (c_46 : PySem.W.codeIn K (.ref c46) "law" = true)
    (r46 : K.lookup c46 = some ⟨ve46, vd46, .fields vs46, vl46⟩) (p46 : vs46[11]? = some (.ref P46)) (n46 : K.lookup P46 = none)
    (h46 : PySem.W.codeHdIn K c46 P46 = true) (y46 : Str.ofString "law" ∈ names)
    {eC0 eC1 eI1 eC2 eI2 eC3 eI3 eC4 eI4 eC5 eI5 eC6 eI6 eC7 eC8 eI8 : Addr}
    (sp1 : PySem.W.specialIn K (.builtin "object.__class__") "__get__" = some (some (.builtin "getset_descriptor.__get__"))) (sp2 : PySem.W.takesIn K (.builtin "object.__class__") = some true)
    (ea0 : PySem.W.nsIn K mainGlobals "LagError" = some (some (.ref eC0))) {enm0 : _} {eq0 : _} {eN0 : _} {ebs0 : _} {ebm0 : _} {esn0 : _} {esub0 : _} {eab0 : _} {ecol0 : _} {edd0 : _} {ek00 : _} {ek10 : _} {ek20 : _} {ek30 : _} {ek50 : _} (el0 : K.lookup eC0 = some (excClassObj enm0 eq0 eC0 eN0 ebs0 ebm0 true esn0 esub0 eab0 ecol0 edd0 ek00 ek10 ek20 ek30 ek50 "ValueError.__new__")) (er0 : PySem.HandSPX.refsVE ebm0 = true)
    (esa0 : PySem.W.findIn K (.ref eC0) "__setattr__" = some (some (.builtin "object.__setattr__")))
    (eex0 : PySem.W.subIn K (.ref eC0) (.type "BaseException") = some true)
    (ety0 : PySem.W.typeIn K (.ref eC0) = some (.type "type"))
    (ekp0 : PySem.W.keepIn K (.ref eC0) = true)
    (ega0 : PySem.W.findIn K (.ref eC0) "__getattribute__" = some (some (.builtin "BaseException.__getattribute__")))
    (egg0 : PySem.W.findIn K (.ref eC0) "__getattr__" = some none)
    (ehd0 : PySem.W.hasDictIn K eC0 = true)
    (eca0 : PySem.W.findIn K (.ref eC0) "__class__" = some (some (.builtin "object.__class__")))
    (emr0 : PySem.W.mroIn K eC0 (.type "object") = some true)
    (ea1 : PySem.W.nsIn K mainGlobals "BadLetters" = some (some (.ref eC1))) {enm1 : _} {eq1 : _} {eN1 : _} {ebs1 : _} {ebm1 : _} {esn1 : _} {esub1 : _} {eab1 : _} {ecol1 : _} {edd1 : _} {ek01 : _} {ek11 : _} {ek21 : _} {ek31 : _} {ek51 : _} (el1 : K.lookup eC1 = some (excClassObj enm1 eq1 eC1 eN1 ebs1 ebm1 true esn1 esub1 eab1 ecol1 edd1 ek01 ek11 ek21 ek31 ek51 "ValueError.__new__")) (er1 : PySem.HandSPX.refsVE ebm1 = true)
    (esa1 : PySem.W.findIn K (.ref eC1) "__setattr__" = some (some (.builtin "object.__setattr__")))
    (eex1 : PySem.W.subIn K (.ref eC1) (.type "BaseException") = some true)
    (ety1 : PySem.W.typeIn K (.ref eC1) = some (.type "type"))
    (ekp1 : PySem.W.keepIn K (.ref eC1) = true)
    (ega1 : PySem.W.findIn K (.ref eC1) "__getattribute__" = some (some (.builtin "BaseException.__getattribute__")))
    (egg1 : PySem.W.findIn K (.ref eC1) "__getattr__" = some none)
    (ehd1 : PySem.W.hasDictIn K eC1 = true)
    (eca1 : PySem.W.findIn K (.ref eC1) "__class__" = some (some (.builtin "object.__class__")))
    (emr1 : PySem.W.mroIn K eC1 (.type "object") = some true)
    {eod1 ean1 : Option Addr} {esl1 : Array (Option Value)} {eoc1 ekV1 edc1 epm1 ecd1 ect1 : Value} (iI1 : PySem.W.findIn K (.ref eC1) "__init__" = some (some (.ref eI1))) (tI1 : PySem.W.typeIn K (.ref eI1) = some (.type "function"))
    (lI1 : K.lookup eI1 = some ⟨eoc1, eod1, .func (PySem.W.fnOf "__init__" "BadLetters.__init__" (defArgs si_BadLetters) (defBody si_BadLetters) (defScope si_BadLetters) .none ekV1 edc1 epm1 ean1 ecd1 ect1), esl1⟩) (cI1 : PySem.W.codeIn K ecd1 "BadLetters.__init__" = true) (kI1 : PySem.W.keepIn K (.ref eI1) = true)
    (eno1_value : PySem.W.findIn K (.ref eC1) "value" = some none)
    (ea2 : PySem.W.nsIn K mainGlobals "BadWord" = some (some (.ref eC2))) {enm2 : _} {eq2 : _} {eN2 : _} {ebs2 : _} {ebm2 : _} {esn2 : _} {esub2 : _} {eab2 : _} {ecol2 : _} {edd2 : _} {ek02 : _} {ek12 : _} {ek22 : _} {ek32 : _} {ek52 : _} (el2 : K.lookup eC2 = some (excClassObj enm2 eq2 eC2 eN2 ebs2 ebm2 true esn2 esub2 eab2 ecol2 edd2 ek02 ek12 ek22 ek32 ek52 "ValueError.__new__")) (er2 : PySem.HandSPX.refsVE ebm2 = true)
    (esa2 : PySem.W.findIn K (.ref eC2) "__setattr__" = some (some (.builtin "object.__setattr__")))
    (eex2 : PySem.W.subIn K (.ref eC2) (.type "BaseException") = some true)
    (ety2 : PySem.W.typeIn K (.ref eC2) = some (.type "type"))
    (ekp2 : PySem.W.keepIn K (.ref eC2) = true)
    (ega2 : PySem.W.findIn K (.ref eC2) "__getattribute__" = some (some (.builtin "BaseException.__getattribute__")))
    (egg2 : PySem.W.findIn K (.ref eC2) "__getattr__" = some none)
    (ehd2 : PySem.W.hasDictIn K eC2 = true)
    (eca2 : PySem.W.findIn K (.ref eC2) "__class__" = some (some (.builtin "object.__class__")))
    (emr2 : PySem.W.mroIn K eC2 (.type "object") = some true)
    {eod2 ean2 : Option Addr} {esl2 : Array (Option Value)} {eoc2 ekV2 edc2 epm2 ecd2 ect2 : Value} (iI2 : PySem.W.findIn K (.ref eC2) "__init__" = some (some (.ref eI2))) (tI2 : PySem.W.typeIn K (.ref eI2) = some (.type "function"))
    (lI2 : K.lookup eI2 = some ⟨eoc2, eod2, .func (PySem.W.fnOf "__init__" "BadWord.__init__" (defArgs si_BadWord) (defBody si_BadWord) (defScope si_BadWord) .none ekV2 edc2 epm2 ean2 ecd2 ect2), esl2⟩) (cI2 : PySem.W.codeIn K ecd2 "BadWord.__init__" = true) (kI2 : PySem.W.keepIn K (.ref eI2) = true)
    (eno2_value : PySem.W.findIn K (.ref eC2) "value" = some none)
    (ea3 : PySem.W.nsIn K mainGlobals "BadNumber" = some (some (.ref eC3))) {enm3 : _} {eq3 : _} {eN3 : _} {ebs3 : _} {ebm3 : _} {esn3 : _} {esub3 : _} {eab3 : _} {ecol3 : _} {edd3 : _} {ek03 : _} {ek13 : _} {ek23 : _} {ek33 : _} {ek53 : _} (el3 : K.lookup eC3 = some (excClassObj enm3 eq3 eC3 eN3 ebs3 ebm3 true esn3 esub3 eab3 ecol3 edd3 ek03 ek13 ek23 ek33 ek53 "ValueError.__new__")) (er3 : PySem.HandSPX.refsVE ebm3 = true)
    (esa3 : PySem.W.findIn K (.ref eC3) "__setattr__" = some (some (.builtin "object.__setattr__")))
    (eex3 : PySem.W.subIn K (.ref eC3) (.type "BaseException") = some true)
    (ety3 : PySem.W.typeIn K (.ref eC3) = some (.type "type"))
    (ekp3 : PySem.W.keepIn K (.ref eC3) = true)
    (ega3 : PySem.W.findIn K (.ref eC3) "__getattribute__" = some (some (.builtin "BaseException.__getattribute__")))
    (egg3 : PySem.W.findIn K (.ref eC3) "__getattr__" = some none)
    (ehd3 : PySem.W.hasDictIn K eC3 = true)
    (eca3 : PySem.W.findIn K (.ref eC3) "__class__" = some (some (.builtin "object.__class__")))
    (emr3 : PySem.W.mroIn K eC3 (.type "object") = some true)
    {eod3 ean3 : Option Addr} {esl3 : Array (Option Value)} {eoc3 ekV3 edc3 epm3 ecd3 ect3 : Value} (iI3 : PySem.W.findIn K (.ref eC3) "__init__" = some (some (.ref eI3))) (tI3 : PySem.W.typeIn K (.ref eI3) = some (.type "function"))
    (lI3 : K.lookup eI3 = some ⟨eoc3, eod3, .func (PySem.W.fnOf "__init__" "BadNumber.__init__" (defArgs si_BadNumber) (defBody si_BadNumber) (defScope si_BadNumber) .none ekV3 edc3 epm3 ean3 ecd3 ect3), esl3⟩) (cI3 : PySem.W.codeIn K ecd3 "BadNumber.__init__" = true) (kI3 : PySem.W.keepIn K (.ref eI3) = true)
    (eno3_value : PySem.W.findIn K (.ref eC3) "value" = some none)
    (ea4 : PySem.W.nsIn K mainGlobals "BadName" = some (some (.ref eC4))) {enm4 : _} {eq4 : _} {eN4 : _} {ebs4 : _} {ebm4 : _} {esn4 : _} {esub4 : _} {eab4 : _} {ecol4 : _} {edd4 : _} {ek04 : _} {ek14 : _} {ek24 : _} {ek34 : _} {ek54 : _} (el4 : K.lookup eC4 = some (excClassObj enm4 eq4 eC4 eN4 ebs4 ebm4 true esn4 esub4 eab4 ecol4 edd4 ek04 ek14 ek24 ek34 ek54 "ValueError.__new__")) (er4 : PySem.HandSPX.refsVE ebm4 = true)
    (esa4 : PySem.W.findIn K (.ref eC4) "__setattr__" = some (some (.builtin "object.__setattr__")))
    (eex4 : PySem.W.subIn K (.ref eC4) (.type "BaseException") = some true)
    (ety4 : PySem.W.typeIn K (.ref eC4) = some (.type "type"))
    (ekp4 : PySem.W.keepIn K (.ref eC4) = true)
    (ega4 : PySem.W.findIn K (.ref eC4) "__getattribute__" = some (some (.builtin "BaseException.__getattribute__")))
    (egg4 : PySem.W.findIn K (.ref eC4) "__getattr__" = some none)
    (ehd4 : PySem.W.hasDictIn K eC4 = true)
    (eca4 : PySem.W.findIn K (.ref eC4) "__class__" = some (some (.builtin "object.__class__")))
    (emr4 : PySem.W.mroIn K eC4 (.type "object") = some true)
    {eod4 ean4 : Option Addr} {esl4 : Array (Option Value)} {eoc4 ekV4 edc4 epm4 ecd4 ect4 : Value} (iI4 : PySem.W.findIn K (.ref eC4) "__init__" = some (some (.ref eI4))) (tI4 : PySem.W.typeIn K (.ref eI4) = some (.type "function"))
    (lI4 : K.lookup eI4 = some ⟨eoc4, eod4, .func (PySem.W.fnOf "__init__" "BadName.__init__" (defArgs si_BadName) (defBody si_BadName) (defScope si_BadName) .none ekV4 edc4 epm4 ean4 ecd4 ect4), esl4⟩) (cI4 : PySem.W.codeIn K ecd4 "BadName.__init__" = true) (kI4 : PySem.W.keepIn K (.ref eI4) = true)
    (eno4_value : PySem.W.findIn K (.ref eC4) "value" = some none)
    (ea5 : PySem.W.nsIn K mainGlobals "BadEntry" = some (some (.ref eC5))) {enm5 : _} {eq5 : _} {eN5 : _} {ebs5 : _} {ebm5 : _} {esn5 : _} {esub5 : _} {eab5 : _} {ecol5 : _} {edd5 : _} {ek05 : _} {ek15 : _} {ek25 : _} {ek35 : _} {ek55 : _} (el5 : K.lookup eC5 = some (excClassObj enm5 eq5 eC5 eN5 ebs5 ebm5 true esn5 esub5 eab5 ecol5 edd5 ek05 ek15 ek25 ek35 ek55 "ValueError.__new__")) (er5 : PySem.HandSPX.refsVE ebm5 = true)
    (esa5 : PySem.W.findIn K (.ref eC5) "__setattr__" = some (some (.builtin "object.__setattr__")))
    (eex5 : PySem.W.subIn K (.ref eC5) (.type "BaseException") = some true)
    (ety5 : PySem.W.typeIn K (.ref eC5) = some (.type "type"))
    (ekp5 : PySem.W.keepIn K (.ref eC5) = true)
    (ega5 : PySem.W.findIn K (.ref eC5) "__getattribute__" = some (some (.builtin "BaseException.__getattribute__")))
    (egg5 : PySem.W.findIn K (.ref eC5) "__getattr__" = some none)
    (ehd5 : PySem.W.hasDictIn K eC5 = true)
    (eca5 : PySem.W.findIn K (.ref eC5) "__class__" = some (some (.builtin "object.__class__")))
    (emr5 : PySem.W.mroIn K eC5 (.type "object") = some true)
    {eod5 ean5 : Option Addr} {esl5 : Array (Option Value)} {eoc5 ekV5 edc5 epm5 ecd5 ect5 : Value} (iI5 : PySem.W.findIn K (.ref eC5) "__init__" = some (some (.ref eI5))) (tI5 : PySem.W.typeIn K (.ref eI5) = some (.type "function"))
    (lI5 : K.lookup eI5 = some ⟨eoc5, eod5, .func (PySem.W.fnOf "__init__" "BadEntry.__init__" (defArgs si_BadEntry) (defBody si_BadEntry) (defScope si_BadEntry) .none ekV5 edc5 epm5 ean5 ecd5 ect5), esl5⟩) (cI5 : PySem.W.codeIn K ecd5 "BadEntry.__init__" = true) (kI5 : PySem.W.keepIn K (.ref eI5) = true)
    (eno5_place : PySem.W.findIn K (.ref eC5) "place" = some none)
    (eno5_index : PySem.W.findIn K (.ref eC5) "index" = some none)
    (ea6 : PySem.W.nsIn K mainGlobals "BadLine" = some (some (.ref eC6))) {enm6 : _} {eq6 : _} {eN6 : _} {ebs6 : _} {ebm6 : _} {esn6 : _} {esub6 : _} {eab6 : _} {ecol6 : _} {edd6 : _} {ek06 : _} {ek16 : _} {ek26 : _} {ek36 : _} {ek56 : _} (el6 : K.lookup eC6 = some (excClassObj enm6 eq6 eC6 eN6 ebs6 ebm6 true esn6 esub6 eab6 ecol6 edd6 ek06 ek16 ek26 ek36 ek56 "ValueError.__new__")) (er6 : PySem.HandSPX.refsVE ebm6 = true)
    (esa6 : PySem.W.findIn K (.ref eC6) "__setattr__" = some (some (.builtin "object.__setattr__")))
    (eex6 : PySem.W.subIn K (.ref eC6) (.type "BaseException") = some true)
    (ety6 : PySem.W.typeIn K (.ref eC6) = some (.type "type"))
    (ekp6 : PySem.W.keepIn K (.ref eC6) = true)
    (ega6 : PySem.W.findIn K (.ref eC6) "__getattribute__" = some (some (.builtin "BaseException.__getattribute__")))
    (egg6 : PySem.W.findIn K (.ref eC6) "__getattr__" = some none)
    (ehd6 : PySem.W.hasDictIn K eC6 = true)
    (eca6 : PySem.W.findIn K (.ref eC6) "__class__" = some (some (.builtin "object.__class__")))
    (emr6 : PySem.W.mroIn K eC6 (.type "object") = some true)
    {eod6 ean6 : Option Addr} {esl6 : Array (Option Value)} {eoc6 ekV6 edc6 epm6 ecd6 ect6 : Value} (iI6 : PySem.W.findIn K (.ref eC6) "__init__" = some (some (.ref eI6))) (tI6 : PySem.W.typeIn K (.ref eI6) = some (.type "function"))
    (lI6 : K.lookup eI6 = some ⟨eoc6, eod6, .func (PySem.W.fnOf "__init__" "BadLine.__init__" (defArgs si_BadLine) (defBody si_BadLine) (defScope si_BadLine) .none ekV6 edc6 epm6 ean6 ecd6 ect6), esl6⟩) (cI6 : PySem.W.codeIn K ecd6 "BadLine.__init__" = true) (kI6 : PySem.W.keepIn K (.ref eI6) = true)
    (eno6_line : PySem.W.findIn K (.ref eC6) "line" = some none)
    (eno6_place : PySem.W.findIn K (.ref eC6) "place" = some none)
    (ea7 : PySem.W.nsIn K mainGlobals "Mismatch" = some (some (.ref eC7))) {enm7 : _} {eq7 : _} {eN7 : _} {ebs7 : _} {ebm7 : _} {esn7 : _} {esub7 : _} {eab7 : _} {ecol7 : _} {edd7 : _} {ek07 : _} {ek17 : _} {ek27 : _} {ek37 : _} {ek57 : _} (el7 : K.lookup eC7 = some (excClassObj enm7 eq7 eC7 eN7 ebs7 ebm7 true esn7 esub7 eab7 ecol7 edd7 ek07 ek17 ek27 ek37 ek57 "ValueError.__new__")) (er7 : PySem.HandSPX.refsVE ebm7 = true)
    (esa7 : PySem.W.findIn K (.ref eC7) "__setattr__" = some (some (.builtin "object.__setattr__")))
    (eex7 : PySem.W.subIn K (.ref eC7) (.type "BaseException") = some true)
    (ety7 : PySem.W.typeIn K (.ref eC7) = some (.type "type"))
    (ekp7 : PySem.W.keepIn K (.ref eC7) = true)
    (ega7 : PySem.W.findIn K (.ref eC7) "__getattribute__" = some (some (.builtin "BaseException.__getattribute__")))
    (egg7 : PySem.W.findIn K (.ref eC7) "__getattr__" = some none)
    (ehd7 : PySem.W.hasDictIn K eC7 = true)
    (eca7 : PySem.W.findIn K (.ref eC7) "__class__" = some (some (.builtin "object.__class__")))
    (emr7 : PySem.W.mroIn K eC7 (.type "object") = some true)
    (ea8 : PySem.W.nsIn K mainGlobals "TooLarge" = some (some (.ref eC8))) {enm8 : _} {eq8 : _} {eN8 : _} {ebs8 : _} {ebm8 : _} {esn8 : _} {esub8 : _} {eab8 : _} {ecol8 : _} {edd8 : _} {ek08 : _} {ek18 : _} {ek28 : _} {ek38 : _} {ek58 : _} (el8 : K.lookup eC8 = some (excClassObj enm8 eq8 eC8 eN8 ebs8 ebm8 true esn8 esub8 eab8 ecol8 edd8 ek08 ek18 ek28 ek38 ek58 "ValueError.__new__")) (er8 : PySem.HandSPX.refsVE ebm8 = true)
    (esa8 : PySem.W.findIn K (.ref eC8) "__setattr__" = some (some (.builtin "object.__setattr__")))
    (eex8 : PySem.W.subIn K (.ref eC8) (.type "BaseException") = some true)
    (ety8 : PySem.W.typeIn K (.ref eC8) = some (.type "type"))
    (ekp8 : PySem.W.keepIn K (.ref eC8) = true)
    (ega8 : PySem.W.findIn K (.ref eC8) "__getattribute__" = some (some (.builtin "BaseException.__getattribute__")))
    (egg8 : PySem.W.findIn K (.ref eC8) "__getattr__" = some none)
    (ehd8 : PySem.W.hasDictIn K eC8 = true)
    (eca8 : PySem.W.findIn K (.ref eC8) "__class__" = some (some (.builtin "object.__class__")))
    (emr8 : PySem.W.mroIn K eC8 (.type "object") = some true)
    {eod8 ean8 : Option Addr} {esl8 : Array (Option Value)} {eoc8 ekV8 edc8 epm8 ecd8 ect8 : Value} (iI8 : PySem.W.findIn K (.ref eC8) "__init__" = some (some (.ref eI8))) (tI8 : PySem.W.typeIn K (.ref eI8) = some (.type "function"))
    (lI8 : K.lookup eI8 = some ⟨eoc8, eod8, .func (PySem.W.fnOf "__init__" "TooLarge.__init__" (defArgs si_TooLarge) (defBody si_TooLarge) (defScope si_TooLarge) .none ekV8 edc8 epm8 ean8 ecd8 ect8), esl8⟩) (cI8 : PySem.W.codeIn K ecd8 "TooLarge.__init__" = true) (kI8 : PySem.W.keepIn K (.ref eI8) = true)
    (eno8_what : PySem.W.findIn K (.ref eC8) "what" = some none)
    (eno8_limit : PySem.W.findIn K (.ref eC8) "limit" = some none)
    (cl_BadLetters : PySem.W.isClsIn K eC1 = true) (ss_BadLetters : PySem.W.subIn K (.ref eC1) (.ref eC1) = some true)
    (cl_BadWord : PySem.W.isClsIn K eC2 = true) (ss_BadWord : PySem.W.subIn K (.ref eC2) (.ref eC2) = some true)
    (cl_BadNumber : PySem.W.isClsIn K eC3 = true) (ss_BadNumber : PySem.W.subIn K (.ref eC3) (.ref eC3) = some true)
    (cl_BadName : PySem.W.isClsIn K eC4 = true) (ss_BadName : PySem.W.subIn K (.ref eC4) (.ref eC4) = some true)
    (cl_BadEntry : PySem.W.isClsIn K eC5 = true) (ss_BadEntry : PySem.W.subIn K (.ref eC5) (.ref eC5) = some true)
    (cl_BadLine : PySem.W.isClsIn K eC6 = true) (ss_BadLine : PySem.W.subIn K (.ref eC6) (.ref eC6) = some true)
    (cl_Mismatch : PySem.W.isClsIn K eC7 = true) (ss_Mismatch : PySem.W.subIn K (.ref eC7) (.ref eC7) = some true)
    (cl_TooLarge : PySem.W.isClsIn K eC8 = true) (ss_TooLarge : PySem.W.subIn K (.ref eC8) (.ref eC8) = some true)
    (cl_LagError : PySem.W.isClsIn K eC0 = true) (ss_LagError : PySem.W.subIn K (.ref eC0) (.ref eC0) = some true)
    (s_BadNumber_BadLetters : PySem.W.subIn K (.ref eC3) (.ref eC1) = some false)
    (s_BadNumber_BadWord : PySem.W.subIn K (.ref eC3) (.ref eC2) = some false)
    (s_BadNumber_BadName : PySem.W.subIn K (.ref eC3) (.ref eC4) = some false)
    (s_BadNumber_BadEntry : PySem.W.subIn K (.ref eC3) (.ref eC5) = some false)
    (s_BadNumber_BadLine : PySem.W.subIn K (.ref eC3) (.ref eC6) = some false)
    (s_BadNumber_Mismatch : PySem.W.subIn K (.ref eC3) (.ref eC7) = some false)
    (s_BadNumber_TooLarge : PySem.W.subIn K (.ref eC3) (.ref eC8) = some false)
    (s_BadNumber_ValueError : PySem.W.subIn K (.ref eC3) (.type "ValueError") = some true)
    (s_BadNumber_LagError : PySem.W.subIn K (.ref eC3) (.ref eC0) = some true)
    (s_BadLetters_BadWord : PySem.W.subIn K (.ref eC1) (.ref eC2) = some false)
    (s_BadLetters_BadNumber : PySem.W.subIn K (.ref eC1) (.ref eC3) = some false)
    (s_BadLetters_BadName : PySem.W.subIn K (.ref eC1) (.ref eC4) = some false)
    (s_BadLetters_BadEntry : PySem.W.subIn K (.ref eC1) (.ref eC5) = some false)
    (s_BadLetters_BadLine : PySem.W.subIn K (.ref eC1) (.ref eC6) = some false)
    (s_BadLetters_Mismatch : PySem.W.subIn K (.ref eC1) (.ref eC7) = some false)
    (s_BadLetters_TooLarge : PySem.W.subIn K (.ref eC1) (.ref eC8) = some false)
    (s_BadLetters_ValueError : PySem.W.subIn K (.ref eC1) (.type "ValueError") = some true)
    (s_BadLetters_LagError : PySem.W.subIn K (.ref eC1) (.ref eC0) = some true)
    (s_BadWord_BadLetters : PySem.W.subIn K (.ref eC2) (.ref eC1) = some false)
    (s_BadWord_BadNumber : PySem.W.subIn K (.ref eC2) (.ref eC3) = some false)
    (s_BadWord_BadName : PySem.W.subIn K (.ref eC2) (.ref eC4) = some false)
    (s_BadWord_BadEntry : PySem.W.subIn K (.ref eC2) (.ref eC5) = some false)
    (s_BadWord_BadLine : PySem.W.subIn K (.ref eC2) (.ref eC6) = some false)
    (s_BadWord_Mismatch : PySem.W.subIn K (.ref eC2) (.ref eC7) = some false)
    (s_BadWord_TooLarge : PySem.W.subIn K (.ref eC2) (.ref eC8) = some false)
    (s_BadWord_ValueError : PySem.W.subIn K (.ref eC2) (.type "ValueError") = some true)
    (s_BadWord_LagError : PySem.W.subIn K (.ref eC2) (.ref eC0) = some true)
    (s_BadName_BadLetters : PySem.W.subIn K (.ref eC4) (.ref eC1) = some false)
    (s_BadName_BadWord : PySem.W.subIn K (.ref eC4) (.ref eC2) = some false)
    (s_BadName_BadNumber : PySem.W.subIn K (.ref eC4) (.ref eC3) = some false)
    (s_BadName_BadEntry : PySem.W.subIn K (.ref eC4) (.ref eC5) = some false)
    (s_BadName_BadLine : PySem.W.subIn K (.ref eC4) (.ref eC6) = some false)
    (s_BadName_Mismatch : PySem.W.subIn K (.ref eC4) (.ref eC7) = some false)
    (s_BadName_TooLarge : PySem.W.subIn K (.ref eC4) (.ref eC8) = some false)
    (s_BadName_ValueError : PySem.W.subIn K (.ref eC4) (.type "ValueError") = some true)
    (s_BadName_LagError : PySem.W.subIn K (.ref eC4) (.ref eC0) = some true)
    (z_ValueError : PySem.W.nsIn K mainGlobals "ValueError" = some none)
    (z_all : PySem.W.nsIn K mainGlobals "all" = some none)
    (z_bool : PySem.W.nsIn K mainGlobals "bool" = some none)
    (z_divmod : PySem.W.nsIn K mainGlobals "divmod" = some none)
    (z_int : PySem.W.nsIn K mainGlobals "int" = some none)
    (z_isinstance : PySem.W.nsIn K mainGlobals "isinstance" = some none)
    (z_len : PySem.W.nsIn K mainGlobals "len" = some none)
    (z_list : PySem.W.nsIn K mainGlobals "list" = some none)
    (z_max : PySem.W.nsIn K mainGlobals "max" = some none)
    (z_min : PySem.W.nsIn K mainGlobals "min" = some none)
    (z_range : PySem.W.nsIn K mainGlobals "range" = some none)
    (z_reversed : PySem.W.nsIn K mainGlobals "reversed" = some none)
    (z_set : PySem.W.nsIn K mainGlobals "set" = some none)
    (z_sorted : PySem.W.nsIn K mainGlobals "sorted" = some none)
    (z_str : PySem.W.nsIn K mainGlobals "str" = some none)
    (z_tuple : PySem.W.nsIn K mainGlobals "tuple" = some none)
    {t_MAX_LETTERS : Tok} (c_MAX_LETTERS : PySem.W.nsIn K mainGlobals "MAX_LETTERS" = some (some (.int 4 t_MAX_LETTERS)))
    {t_MAX_NAME : Tok} (c_MAX_NAME : PySem.W.nsIn K mainGlobals "MAX_NAME" = some (some (.int 12 t_MAX_NAME)))
    {t_MAX_READ : Tok} (c_MAX_READ : PySem.W.nsIn K mainGlobals "MAX_READ" = some (some (.int 4000 t_MAX_READ)))
    {t_SMALL_LETTERS : Tok} (c_SMALL_LETTERS : PySem.W.nsIn K mainGlobals "SMALL_LETTERS" = some (some (.str "abcdefghijklmnopqrstuvwxyz" t_SMALL_LETTERS)))
    {t_DIGITS : Tok} (c_DIGITS : PySem.W.nsIn K mainGlobals "DIGITS" = some (some (.str "0123456789" t_DIGITS)))
    {t_MAX_ALL_WORDS : Tok} (c_MAX_ALL_WORDS : PySem.W.nsIn K mainGlobals "MAX_ALL_WORDS" = some (some (.int 6 t_MAX_ALL_WORDS)))
    (one : ∀ p ∈ ([(P3, (Str.ofString "is_letters" ++ ".<locals>.") ++ "<genexpr>"), (P4, (Str.ofString "is_word" ++ ".<locals>.") ++ "<genexpr>"), (P6, (Str.ofString "is_name" ++ ".<locals>.") ++ "<genexpr>"), (P42, (Str.ofString "_law_words_checked" ++ ".<locals>.") ++ "<lambda>"), (P43, (Str.ofString "_law_numbers_checked" ++ ".<locals>.") ++ "<lambda>"), (P46, (Str.ofString "law" ++ ".<locals>.") ++ "<lambda>")] : List (Addr × Str)), ∀ q ∈ ([(P3, (Str.ofString "is_letters" ++ ".<locals>.") ++ "<genexpr>"), (P4, (Str.ofString "is_word" ++ ".<locals>.") ++ "<genexpr>"), (P6, (Str.ofString "is_name" ++ ".<locals>.") ++ "<genexpr>"), (P42, (Str.ofString "_law_words_checked" ++ ".<locals>.") ++ "<lambda>"), (P43, (Str.ofString "_law_numbers_checked" ++ ".<locals>.") ++ "<lambda>"), (P46, (Str.ofString "law" ++ ".<locals>.") ++ "<lambda>")] : List (Addr × Str)), p.1 = q.1 → p.2 = q.2) : LamX.LawAtS l w K CX0 (14 + 1) 63 "script" mg fa h := by
  have e := hfa.symm.trans (PySem.W.mg_of X G a46)
  cases e
  have F0 := fun_mk (st := s_is_whole) l0 c_0 k0
  have b0 := F0.binds (ps := ["value"]) fun _ _ _ _ _ _ us hl => match us, hl with | [_], _ => rfl
  have F1 := fun_mk (st := s_in_range) l1 c_1 k1
  have b1 := F1.binds (ps := ["value", "low", "high"]) fun _ _ _ _ _ _ us hl => match us, hl with | [_, _, _], _ => rfl
  have F2 := fun_mk (st := s_check_number) l2 c_2 k2
  have b2 := F2.binds (ps := ["value", "low", "high"]) fun _ _ _ _ _ _ us hl => match us, hl with | [_, _, _], _ => rfl
  have F3 := fun_mk (st := s_is_letters) l3 c_3 k3
  have b3 := F3.binds (ps := ["value"]) fun _ _ _ _ _ _ us hl => match us, hl with | [_], _ => rfl
  have F4 := fun_mk (st := s_is_word) l4 c_4 k4
  have b4 := F4.binds (ps := ["letters", "value"]) fun _ _ _ _ _ _ us hl => match us, hl with | [_, _], _ => rfl
  have F5 := fun_mk (st := s_is_word_up_to) l5 c_5 k5
  have b5 := F5.binds (ps := ["letters", "value", "most"]) fun _ _ _ _ _ _ us hl => match us, hl with | [_, _, _], _ => rfl
  have F6 := fun_mk (st := s_is_name) l6 c_6 k6
  have b6 := F6.binds (ps := ["value"]) fun _ _ _ _ _ _ us hl => match us, hl with | [_], _ => rfl
  have F7 := fun_mk (st := s_check_letters) l7 c_7 k7
  have b7 := F7.binds (ps := ["letters"]) fun _ _ _ _ _ _ us hl => match us, hl with | [_], _ => rfl
  have F8 := fun_mk (st := s_check_word) l8 c_8 k8
  have b8 := F8.binds (ps := ["letters", "word"]) fun _ _ _ _ _ _ us hl => match us, hl with | [_, _], _ => rfl
  have F9 := fun_mk (st := s_check_name) l9 c_9 k9
  have b9 := F9.binds (ps := ["name"]) fun _ _ _ _ _ _ us hl => match us, hl with | [_], _ => rfl
  have F10 := fun_mk (st := s_all_words) l10 c_10 k10
  have b10 := F10.binds (ps := ["letters", "most"]) fun _ _ _ _ _ _ us hl => match us, hl with | [_, _], _ => rfl
  have F11 := fun_mk (st := s_word_index) l11 c_11 k11
  have b11 := F11.binds (ps := ["letters", "word"]) fun _ _ _ _ _ _ us hl => match us, hl with | [_, _], _ => rfl
  have F12 := fun_mk (st := s_word_at) l12 c_12 k12
  have b12 := F12.binds (ps := ["letters", "index"]) fun _ _ _ _ _ _ us hl => match us, hl with | [_, _], _ => rfl
  have F13 := fun_mk (st := s_shown_word) l13 c_13 k13
  have b13 := F13.binds (ps := ["letters", "text", "most"]) fun _ _ _ _ _ _ us hl => match us, hl with | [_, _, _], _ => rfl
  have F14 := fun_mk (st := s_read_shown) l14 c_14 k14
  have b14 := F14.binds (ps := ["letters", "text"]) fun _ _ _ _ _ _ us hl => match us, hl with | [_, _], _ => rfl
  have F15 := fun_mk (st := s_mix) l15 c_15 k15
  have b15 := F15.binds (ps := ["number", "tick"]) fun _ _ _ _ _ _ us hl => match us, hl with | [_, _], _ => rfl
  have F16 := fun_mk (st := s_store) l16 c_16 k16
  have b16 := F16.binds (ps := ["script"]) fun _ _ _ _ _ _ us hl => match us, hl with | [_], _ => rfl
  have F17 := fun_mk (st := s_take) l17 c_17 k17
  have b17 := F17.binds (ps := ["store", "many"]) fun _ _ _ _ _ _ us hl => match us, hl with | [_, _], _ => rfl
  have F18 := fun_mk (st := s_pick) l18 c_18 k18
  have b18 := F18.binds (ps := ["store", "row"]) fun _ _ _ _ _ _ us hl => match us, hl with | [_, _], _ => rfl
  have F19 := fun_mk (st := s_between) l19 c_19 k19
  have b19 := F19.binds (ps := ["store", "low", "high"]) fun _ _ _ _ _ _ us hl => match us, hl with | [_, _, _], _ => rfl
  have F20 := fun_mk (st := s_big) l20 c_20 k20
  have b20 := F20.binds (ps := ["store"]) fun _ _ _ _ _ _ us hl => match us, hl with | [_], _ => rfl
  have F21 := fun_mk (st := s_worn) l21 c_21 k21
  have b21 := F21.binds (ps := ["store", "row"]) fun _ _ _ _ _ _ us hl => match us, hl with | [_, _], _ => rfl
  have F22 := fun_mk (st := s_no_text) l22 c_22 k22
  have b22 := F22.binds (ps := ["store"]) fun _ _ _ _ _ _ us hl => match us, hl with | [_], _ => rfl
  have F23 := fun_mk (st := s_not_number) l23 c_23 k23
  have b23 := F23.binds (ps := ["store", "low", "high"]) fun _ _ _ _ _ _ us hl => match us, hl with | [_, _, _], _ => rfl
  have F24 := fun_mk (st := s_letters) l24 c_24 k24
  have b24 := F24.binds (ps := ["store", "limit"]) fun _ _ _ _ _ _ us hl => match us, hl with | [_, _], _ => rfl
  have F25 := fun_mk (st := s_stranger) l25 c_25 k25
  have b25 := F25.binds (ps := ["store", "letters"]) fun _ _ _ _ _ _ us hl => match us, hl with | [_, _], _ => rfl
  have F26 := fun_mk (st := s_not_letters) l26 c_26 k26
  have b26 := F26.binds (ps := ["store"]) fun _ _ _ _ _ _ us hl => match us, hl with | [_], _ => rfl
  have F27 := fun_mk (st := s_word) l27 c_27 k27
  have b27 := F27.binds (ps := ["store", "letters", "limit"]) fun _ _ _ _ _ _ us hl => match us, hl with | [_, _, _], _ => rfl
  have F28 := fun_mk (st := s_long_word) l28 c_28 k28
  have b28 := F28.binds (ps := ["store", "letters", "size"]) fun _ _ _ _ _ _ us hl => match us, hl with | [_, _, _], _ => rfl
  have F29 := fun_mk (st := s_not_word) l29 c_29 k29
  have b29 := F29.binds (ps := ["store", "letters"]) fun _ _ _ _ _ _ us hl => match us, hl with | [_, _], _ => rfl
  have F30 := fun_mk (st := s_not_read) l30 c_30 k30
  have b30 := F30.binds (ps := ["store", "letters"]) fun _ _ _ _ _ _ us hl => match us, hl with | [_, _], _ => rfl
  have F31 := fun_mk (st := s_name) l31 c_31 k31
  have b31 := F31.binds (ps := ["store"]) fun _ _ _ _ _ _ us hl => match us, hl with | [_], _ => rfl
  have F32 := fun_mk (st := s_not_name) l32 c_32 k32
  have b32 := F32.binds (ps := ["store"]) fun _ _ _ _ _ _ us hl => match us, hl with | [_], _ => rfl
  have F33 := fun_mk (st := s_same) l33 c_33 k33
  have b33 := F33.binds (ps := ["actual", "expected"]) fun _ _ _ _ _ _ us hl => match us, hl with | [_, _], _ => rfl
  have F34 := fun_mk (st := s_copy) l34 c_34 k34
  have b34 := F34.binds (ps := ["value"]) fun _ _ _ _ _ _ us hl => match us, hl with | [_], _ => rfl
  have F35 := fun_mk (st := s_is_integer) l35 c_35 k35
  have b35 := F35.binds (ps := ["value"]) fun _ _ _ _ _ _ us hl => match us, hl with | [_], _ => rfl
  have F36 := fun_mk (st := s_lw_is_word) l36 c_36 k36
  have b36 := F36.binds (ps := ["letters", "value"]) fun _ _ _ _ _ _ us hl => match us, hl with | [_, _], _ => rfl
  have F37 := fun_mk (st := s_any) l37 c_37 k37
  have b37 := F37.binds (ps := ["store"]) fun _ _ _ _ _ _ us hl => match us, hl with | [_], _ => rfl
  have F38 := fun_mk (st := s_gave) l38 c_38 k38
  have b38 := F38.binds (ps := ["action"]) fun _ _ _ _ _ _ us hl => match us, hl with | [_], _ => rfl
  have F39 := fun_mk (st := s_good_letters) l39 c_39 k39
  have b39 := F39.binds (ps := ["value"]) fun _ _ _ _ _ _ us hl => match us, hl with | [_], _ => rfl
  have F40 := fun_mk (st := s_good_name) l40 c_40 k40
  have b40 := F40.binds (ps := ["value"]) fun _ _ _ _ _ _ us hl => match us, hl with | [_], _ => rfl
  have F41 := fun_mk (st := s_word_due) l41 c_41 k41
  have b41 := F41.binds (ps := ["letters", "value"]) fun _ _ _ _ _ _ us hl => match us, hl with | [_, _], _ => rfl
  have F42 := fun_mk (st := s_words_checked) l42 c_42 k42
  have b42 := F42.binds (ps := ["letters", "value"]) fun _ _ _ _ _ _ us hl => match us, hl with | [_, _], _ => rfl
  have F43 := fun_mk (st := s_numbers_checked) l43 c_43 k43
  have b43 := F43.binds (ps := ["letters", "number"]) fun _ _ _ _ _ _ us hl => match us, hl with | [_, _], _ => rfl
  have F44 := fun_mk (st := s_one_checked) l44 c_44 k44
  have b44 := F44.binds (ps := ["value", "good", "error", "action"]) fun _ _ _ _ _ _ us hl => match us, hl with | [_, _, _, _], _ => rfl
  have F45 := fun_mk (st := s_word_values) l45 c_45 k45
  have b45 := F45.binds (ps := ["store", "letters"]) fun _ _ _ _ _ _ us hl => match us, hl with | [_, _], _ => rfl
  have F46 := fun_mk (st := s_law) l46 c_46 k46
  have b46 := F46.binds (ps := ["script"]) fun _ _ _ _ _ _ us hl => match us, hl with | [_], _ => rfl
  have FI1 := fun_mk (st := si_BadLetters) lI1 cI1 kI1
  have bI1 := FI1.binds (ps := ["self", "value"]) fun _ _ _ _ _ _ us hl => match us, hl with | [_, _], _ => rfl
  have FI2 := fun_mk (st := si_BadWord) lI2 cI2 kI2
  have bI2 := FI2.binds (ps := ["self", "value"]) fun _ _ _ _ _ _ us hl => match us, hl with | [_, _], _ => rfl
  have FI3 := fun_mk (st := si_BadNumber) lI3 cI3 kI3
  have bI3 := FI3.binds (ps := ["self", "value"]) fun _ _ _ _ _ _ us hl => match us, hl with | [_, _], _ => rfl
  have FI4 := fun_mk (st := si_BadName) lI4 cI4 kI4
  have bI4 := FI4.binds (ps := ["self", "value"]) fun _ _ _ _ _ _ us hl => match us, hl with | [_, _], _ => rfl
  have FI5 := fun_mk (st := si_BadEntry) lI5 cI5 kI5
  have bI5 := FI5.binds (ps := ["self", "place", "index"]) fun _ _ _ _ _ _ us hl => match us, hl with | [_, _, _], _ => rfl
  have FI6 := fun_mk (st := si_BadLine) lI6 cI6 kI6
  have bI6 := FI6.binds (ps := ["self", "line", "place"]) fun _ _ _ _ _ _ us hl => match us, hl with | [_, _, _], _ => rfl
  have FI8 := fun_mk (st := si_TooLarge) lI8 cI8 kI8
  have bI8 := FI8.binds (ps := ["self", "what", "limit"]) fun _ _ _ _ _ _ us hl => match us, hl with | [_, _, _], _ => rfl
  letI : Tabl := ⟨([(P3, (Str.ofString "is_letters" ++ ".<locals>.") ++ "<genexpr>"), (P4, (Str.ofString "is_word" ++ ".<locals>.") ++ "<genexpr>"), (P6, (Str.ofString "is_name" ++ ".<locals>.") ++ "<genexpr>"), (P42, (Str.ofString "_law_words_checked" ++ ".<locals>.") ++ "<lambda>"), (P43, (Str.ofString "_law_numbers_checked" ++ ".<locals>.") ++ "<lambda>"), (P46, (Str.ofString "law" ++ ".<locals>.") ++ "<lambda>")] : List (Addr × Str)), one⟩
  refine ⟨_, [(c3, P3), (c4, P4), (c6, P6), (c42, P42), (c43, P43), (c46, P46)], sp_law K, List.forall_mem_cons.mpr ⟨E _ _ _ _ _ _ _ _ _ _ y3 (PySem.W.mg_of X G a3) l3 rfl rfl r3 p3, List.forall_mem_cons.mpr ⟨E _ _ _ _ _ _ _ _ _ _ y4 (PySem.W.mg_of X G a4) l4 rfl rfl r4 p4, List.forall_mem_cons.mpr ⟨E _ _ _ _ _ _ _ _ _ _ y6 (PySem.W.mg_of X G a6) l6 rfl rfl r6 p6, List.forall_mem_cons.mpr ⟨E _ _ _ _ _ _ _ _ _ _ y42 (PySem.W.mg_of X G a42) l42 rfl rfl r42 p42, List.forall_mem_cons.mpr ⟨E _ _ _ _ _ _ _ _ _ _ y43 (PySem.W.mg_of X G a43) l43 rfl rfl r43 p43, List.forall_mem_cons.mpr ⟨E _ _ _ _ _ _ _ _ _ _ y46 (PySem.W.mg_of X G a46) l46 rfl rfl r46 p46, (fun _ h => nomatch h)⟩⟩⟩⟩⟩⟩, List.forall_mem_cons.mpr ⟨n3, List.forall_mem_cons.mpr ⟨n4, List.forall_mem_cons.mpr ⟨n6, List.forall_mem_cons.mpr ⟨n42, List.forall_mem_cons.mpr ⟨n43, List.forall_mem_cons.mpr ⟨n46, (fun _ h => nomatch h)⟩⟩⟩⟩⟩⟩, List.forall_mem_cons.mpr ⟨PySem.W.codeHd_of_K X h3, List.forall_mem_cons.mpr ⟨PySem.W.codeHd_of_K X h4, List.forall_mem_cons.mpr ⟨PySem.W.codeHd_of_K X h6, List.forall_mem_cons.mpr ⟨PySem.W.codeHd_of_K X h42, List.forall_mem_cons.mpr ⟨PySem.W.codeHd_of_K X h43, List.forall_mem_cons.mpr ⟨PySem.W.codeHd_of_K X h46, (fun _ h => nomatch h)⟩⟩⟩⟩⟩⟩, fun s v => .of_eq rfl, fun H a ns hl _ hT hS => ⟨a, ns, rfl, hS, hl, List.forall_mem_cons.mpr ⟨LamX.TabS.nil (hT (c3, P3) (List.Mem.head _)), List.forall_mem_cons.mpr ⟨LamX.TabS.nil (hT (c4, P4) (List.Mem.tail _ (List.Mem.head _))), List.forall_mem_cons.mpr ⟨LamX.TabS.nil (hT (c6, P6) (List.Mem.tail _ (List.Mem.tail _ (List.Mem.head _)))), List.forall_mem_cons.mpr ⟨LamX.TabS.nil (hT (c42, P42) (List.Mem.tail _ (List.Mem.tail _ (List.Mem.tail _ (List.Mem.head _))))), List.forall_mem_cons.mpr ⟨LamX.TabS.nil (hT (c43, P43) (List.Mem.tail _ (List.Mem.tail _ (List.Mem.tail _ (List.Mem.tail _ (List.Mem.head _)))))), List.forall_mem_cons.mpr ⟨LamX.TabS.nil (hT (c46, P46) (List.Mem.tail _ (List.Mem.tail _ (List.Mem.tail _ (List.Mem.tail _ (List.Mem.tail _ (List.Mem.head _))))))), (fun _ h => nomatch h)⟩⟩⟩⟩⟩⟩, fun _ => rfl⟩, fun base _ _ tb => ok_law (K := K) (mg := mg) { f_is_whole := _, fd_is_whole := _, F_is_whole := F0, b_is_whole := b0, g_is_whole := PySem.W.mg_of X G a0, f_in_range := _, fd_in_range := _, F_in_range := F1, b_in_range := b1, g_in_range := PySem.W.mg_of X G a1, f_check_number := _, fd_check_number := _, F_check_number := F2, b_check_number := b2, g_check_number := PySem.W.mg_of X G a2, f_is_letters := _, fd_is_letters := _, C_is_letters := c3, P_is_letters := P3, F_is_letters := ⟨F3, rfl⟩, B_is_letters := tb (c3, P3) (List.Mem.head _), m_is_letters := (List.Mem.head _), b_is_letters := b3, g_is_letters := PySem.W.mg_of X G a3, f_is_word := _, fd_is_word := _, C_is_word := c4, P_is_word := P4, F_is_word := ⟨F4, rfl⟩, B_is_word := tb (c4, P4) (List.Mem.tail _ (List.Mem.head _)), m_is_word := (List.Mem.tail _ (List.Mem.head _)), b_is_word := b4, g_is_word := PySem.W.mg_of X G a4, f_is_word_up_to := _, fd_is_word_up_to := _, F_is_word_up_to := F5, b_is_word_up_to := b5, g_is_word_up_to := PySem.W.mg_of X G a5, f_is_name := _, fd_is_name := _, C_is_name := c6, P_is_name := P6, F_is_name := ⟨F6, rfl⟩, B_is_name := tb (c6, P6) (List.Mem.tail _ (List.Mem.tail _ (List.Mem.head _))), m_is_name := (List.Mem.tail _ (List.Mem.tail _ (List.Mem.head _))), b_is_name := b6, g_is_name := PySem.W.mg_of X G a6, f_check_letters := _, fd_check_letters := _, F_check_letters := F7, b_check_letters := b7, g_check_letters := PySem.W.mg_of X G a7, f_check_word := _, fd_check_word := _, F_check_word := F8, b_check_word := b8, g_check_word := PySem.W.mg_of X G a8, f_check_name := _, fd_check_name := _, F_check_name := F9, b_check_name := b9, g_check_name := PySem.W.mg_of X G a9, f_all_words := _, fd_all_words := _, F_all_words := F10, b_all_words := b10, g_all_words := PySem.W.mg_of X G a10, f_word_index := _, fd_word_index := _, F_word_index := F11, b_word_index := b11, g_word_index := PySem.W.mg_of X G a11, f_word_at := _, fd_word_at := _, F_word_at := F12, b_word_at := b12, g_word_at := PySem.W.mg_of X G a12, f_shown_word := _, fd_shown_word := _, F_shown_word := F13, b_shown_word := b13, g_shown_word := PySem.W.mg_of X G a13, f_read_shown := _, fd_read_shown := _, F_read_shown := F14, b_read_shown := b14, g_read_shown := PySem.W.mg_of X G a14, f_mix := _, fd_mix := _, F_mix := F15, b_mix := b15, g_mix := PySem.W.mg_of X G a15, f_store := _, fd_store := _, F_store := F16, b_store := b16, g_store := PySem.W.mg_of X G a16, f_take := _, fd_take := _, F_take := F17, b_take := b17, g_take := PySem.W.mg_of X G a17, f_pick := _, fd_pick := _, F_pick := F18, b_pick := b18, g_pick := PySem.W.mg_of X G a18, f_between := _, fd_between := _, F_between := F19, b_between := b19, g_between := PySem.W.mg_of X G a19, f_big := _, fd_big := _, F_big := F20, b_big := b20, g_big := PySem.W.mg_of X G a20, f_worn := _, fd_worn := _, F_worn := F21, b_worn := b21, g_worn := PySem.W.mg_of X G a21, f_no_text := _, fd_no_text := _, F_no_text := F22, b_no_text := b22, g_no_text := PySem.W.mg_of X G a22, f_not_number := _, fd_not_number := _, F_not_number := F23, b_not_number := b23, g_not_number := PySem.W.mg_of X G a23, f_letters := _, fd_letters := _, F_letters := F24, b_letters := b24, g_letters := PySem.W.mg_of X G a24, f_stranger := _, fd_stranger := _, F_stranger := F25, b_stranger := b25, g_stranger := PySem.W.mg_of X G a25, f_not_letters := _, fd_not_letters := _, F_not_letters := F26, b_not_letters := b26, g_not_letters := PySem.W.mg_of X G a26, f_word := _, fd_word := _, F_word := F27, b_word := b27, g_word := PySem.W.mg_of X G a27, f_long_word := _, fd_long_word := _, F_long_word := F28, b_long_word := b28, g_long_word := PySem.W.mg_of X G a28, f_not_word := _, fd_not_word := _, F_not_word := F29, b_not_word := b29, g_not_word := PySem.W.mg_of X G a29, f_not_read := _, fd_not_read := _, F_not_read := F30, b_not_read := b30, g_not_read := PySem.W.mg_of X G a30, f_name := _, fd_name := _, F_name := F31, b_name := b31, g_name := PySem.W.mg_of X G a31, f_not_name := _, fd_not_name := _, F_not_name := F32, b_not_name := b32, g_not_name := PySem.W.mg_of X G a32, f_same := _, fd_same := _, F_same := F33, b_same := b33, g_same := PySem.W.mg_of X G a33, f_copy := _, fd_copy := _, F_copy := F34, b_copy := b34, g_copy := PySem.W.mg_of X G a34, f_is_integer := _, fd_is_integer := _, F_is_integer := F35, b_is_integer := b35, g_is_integer := PySem.W.mg_of X G a35, f_lw_is_word := _, fd_lw_is_word := _, F_lw_is_word := F36, b_lw_is_word := b36, g_lw_is_word := PySem.W.mg_of X G a36, f_any := _, fd_any := _, F_any := F37, b_any := b37, g_any := PySem.W.mg_of X G a37, f_gave := _, fd_gave := _, F_gave := F38, b_gave := b38, g_gave := PySem.W.mg_of X G a38, f_good_letters := _, fd_good_letters := _, F_good_letters := F39, b_good_letters := b39, g_good_letters := PySem.W.mg_of X G a39, f_good_name := _, fd_good_name := _, F_good_name := F40, b_good_name := b40, g_good_name := PySem.W.mg_of X G a40, f_word_due := _, fd_word_due := _, F_word_due := F41, b_word_due := b41, g_word_due := PySem.W.mg_of X G a41, f_words_checked := _, fd_words_checked := _, C_words_checked := c42, P_words_checked := P42, F_words_checked := ⟨F42, rfl⟩, B_words_checked := tb (c42, P42) (List.Mem.tail _ (List.Mem.tail _ (List.Mem.tail _ (List.Mem.head _)))), m_words_checked := (List.Mem.tail _ (List.Mem.tail _ (List.Mem.tail _ (List.Mem.head _)))), b_words_checked := b42, g_words_checked := PySem.W.mg_of X G a42, f_numbers_checked := _, fd_numbers_checked := _, C_numbers_checked := c43, P_numbers_checked := P43, F_numbers_checked := ⟨F43, rfl⟩, B_numbers_checked := tb (c43, P43) (List.Mem.tail _ (List.Mem.tail _ (List.Mem.tail _ (List.Mem.tail _ (List.Mem.head _))))), m_numbers_checked := (List.Mem.tail _ (List.Mem.tail _ (List.Mem.tail _ (List.Mem.tail _ (List.Mem.head _))))), b_numbers_checked := b43, g_numbers_checked := PySem.W.mg_of X G a43, f_one_checked := _, fd_one_checked := _, F_one_checked := F44, b_one_checked := b44, g_one_checked := PySem.W.mg_of X G a44, f_word_values := _, fd_word_values := _, F_word_values := F45, b_word_values := b45, g_word_values := PySem.W.mg_of X G a45, f_law := _, fd_law := _, C_law := c46, P_law := P46, F_law := ⟨F46, rfl⟩, B_law := tb (c46, P46) (List.Mem.tail _ (List.Mem.tail _ (List.Mem.tail _ (List.Mem.tail _ (List.Mem.tail _ (List.Mem.head _)))))), m_law := (List.Mem.tail _ (List.Mem.tail _ (List.Mem.tail _ (List.Mem.tail _ (List.Mem.tail _ (List.Mem.head _)))))), b_law := b46, g_law := PySem.W.mg_of X G a46, C_LagError := eC0, E_LagError := ⟨PySem.W.mg_of X G ea0, ⟨⟨_, _, _, _, _, _, _, _, _, _, _, _, _, _, _, el0, er0⟩, esa0, eex0, ety0, ekp0⟩, ⟨ega0, egg0, eex0, ehd0⟩, ⟨ega0, egg0, eex0, ehd0, eca0, sp1, sp2, emr0⟩⟩, C_BadLetters := eC1, E_BadLetters := ⟨PySem.W.mg_of X G ea1, ⟨⟨_, _, _, _, _, _, _, _, _, _, _, _, _, _, _, el1, er1⟩, esa1, eex1, ety1, ekp1⟩, ⟨ega1, egg1, eex1, ehd1⟩, ⟨ega1, egg1, eex1, ehd1, eca1, sp1, sp2, emr1⟩⟩, I_BadLetters := eI1, fdI_BadLetters := _, FI_BadLetters := FI1, bI_BadLetters := bI1, iI_BadLetters := iI1, tI_BadLetters := tI1, no_BadLetters_value := eno1_value, C_BadWord := eC2, E_BadWord := ⟨PySem.W.mg_of X G ea2, ⟨⟨_, _, _, _, _, _, _, _, _, _, _, _, _, _, _, el2, er2⟩, esa2, eex2, ety2, ekp2⟩, ⟨ega2, egg2, eex2, ehd2⟩, ⟨ega2, egg2, eex2, ehd2, eca2, sp1, sp2, emr2⟩⟩, I_BadWord := eI2, fdI_BadWord := _, FI_BadWord := FI2, bI_BadWord := bI2, iI_BadWord := iI2, tI_BadWord := tI2, no_BadWord_value := eno2_value, C_BadNumber := eC3, E_BadNumber := ⟨PySem.W.mg_of X G ea3, ⟨⟨_, _, _, _, _, _, _, _, _, _, _, _, _, _, _, el3, er3⟩, esa3, eex3, ety3, ekp3⟩, ⟨ega3, egg3, eex3, ehd3⟩, ⟨ega3, egg3, eex3, ehd3, eca3, sp1, sp2, emr3⟩⟩, I_BadNumber := eI3, fdI_BadNumber := _, FI_BadNumber := FI3, bI_BadNumber := bI3, iI_BadNumber := iI3, tI_BadNumber := tI3, no_BadNumber_value := eno3_value, C_BadName := eC4, E_BadName := ⟨PySem.W.mg_of X G ea4, ⟨⟨_, _, _, _, _, _, _, _, _, _, _, _, _, _, _, el4, er4⟩, esa4, eex4, ety4, ekp4⟩, ⟨ega4, egg4, eex4, ehd4⟩, ⟨ega4, egg4, eex4, ehd4, eca4, sp1, sp2, emr4⟩⟩, I_BadName := eI4, fdI_BadName := _, FI_BadName := FI4, bI_BadName := bI4, iI_BadName := iI4, tI_BadName := tI4, no_BadName_value := eno4_value, C_BadEntry := eC5, E_BadEntry := ⟨PySem.W.mg_of X G ea5, ⟨⟨_, _, _, _, _, _, _, _, _, _, _, _, _, _, _, el5, er5⟩, esa5, eex5, ety5, ekp5⟩, ⟨ega5, egg5, eex5, ehd5⟩, ⟨ega5, egg5, eex5, ehd5, eca5, sp1, sp2, emr5⟩⟩, I_BadEntry := eI5, fdI_BadEntry := _, FI_BadEntry := FI5, bI_BadEntry := bI5, iI_BadEntry := iI5, tI_BadEntry := tI5, no_BadEntry_place := eno5_place, no_BadEntry_index := eno5_index, C_BadLine := eC6, E_BadLine := ⟨PySem.W.mg_of X G ea6, ⟨⟨_, _, _, _, _, _, _, _, _, _, _, _, _, _, _, el6, er6⟩, esa6, eex6, ety6, ekp6⟩, ⟨ega6, egg6, eex6, ehd6⟩, ⟨ega6, egg6, eex6, ehd6, eca6, sp1, sp2, emr6⟩⟩, I_BadLine := eI6, fdI_BadLine := _, FI_BadLine := FI6, bI_BadLine := bI6, iI_BadLine := iI6, tI_BadLine := tI6, no_BadLine_line := eno6_line, no_BadLine_place := eno6_place, C_Mismatch := eC7, E_Mismatch := ⟨PySem.W.mg_of X G ea7, ⟨⟨_, _, _, _, _, _, _, _, _, _, _, _, _, _, _, el7, er7⟩, esa7, eex7, ety7, ekp7⟩, ⟨ega7, egg7, eex7, ehd7⟩, ⟨ega7, egg7, eex7, ehd7, eca7, sp1, sp2, emr7⟩⟩, C_TooLarge := eC8, E_TooLarge := ⟨PySem.W.mg_of X G ea8, ⟨⟨_, _, _, _, _, _, _, _, _, _, _, _, _, _, _, el8, er8⟩, esa8, eex8, ety8, ekp8⟩, ⟨ega8, egg8, eex8, ehd8⟩, ⟨ega8, egg8, eex8, ehd8, eca8, sp1, sp2, emr8⟩⟩, I_TooLarge := eI8, fdI_TooLarge := _, FI_TooLarge := FI8, bI_TooLarge := bI8, iI_TooLarge := iI8, tI_TooLarge := tI8, no_TooLarge_what := eno8_what, no_TooLarge_limit := eno8_limit, k_BadNumber_BadLetters := kitN cl_BadLetters ety1 s_BadNumber_BadLetters ss_BadLetters, k_BadNumber_BadWord := kitN cl_BadWord ety2 s_BadNumber_BadWord ss_BadWord, k_BadNumber_BadNumber := kitY cl_BadNumber ety3 ss_BadNumber, k_BadNumber_BadName := kitN cl_BadName ety4 s_BadNumber_BadName ss_BadName, k_BadNumber_BadEntry := kitN cl_BadEntry ety5 s_BadNumber_BadEntry ss_BadEntry, k_BadNumber_BadLine := kitN cl_BadLine ety6 s_BadNumber_BadLine ss_BadLine, k_BadNumber_Mismatch := kitN cl_Mismatch ety7 s_BadNumber_Mismatch ss_Mismatch, k_BadNumber_TooLarge := kitN cl_TooLarge ety8 s_BadNumber_TooLarge ss_TooLarge, k_BadNumber_ValueError := kitB (by decide +kernel) s_BadNumber_ValueError, x_BadNumber_LagError := exmR eex0 cl_LagError ety0 s_BadNumber_LagError, k_BadLetters_BadLetters := kitY cl_BadLetters ety1 ss_BadLetters, k_BadLetters_BadWord := kitN cl_BadWord ety2 s_BadLetters_BadWord ss_BadWord, k_BadLetters_BadNumber := kitN cl_BadNumber ety3 s_BadLetters_BadNumber ss_BadNumber, k_BadLetters_BadName := kitN cl_BadName ety4 s_BadLetters_BadName ss_BadName, k_BadLetters_BadEntry := kitN cl_BadEntry ety5 s_BadLetters_BadEntry ss_BadEntry, k_BadLetters_BadLine := kitN cl_BadLine ety6 s_BadLetters_BadLine ss_BadLine, k_BadLetters_Mismatch := kitN cl_Mismatch ety7 s_BadLetters_Mismatch ss_Mismatch, k_BadLetters_TooLarge := kitN cl_TooLarge ety8 s_BadLetters_TooLarge ss_TooLarge, k_BadLetters_ValueError := kitB (by decide +kernel) s_BadLetters_ValueError, x_BadLetters_LagError := exmR eex0 cl_LagError ety0 s_BadLetters_LagError, k_BadWord_BadLetters := kitN cl_BadLetters ety1 s_BadWord_BadLetters ss_BadLetters, k_BadWord_BadWord := kitY cl_BadWord ety2 ss_BadWord, k_BadWord_BadNumber := kitN cl_BadNumber ety3 s_BadWord_BadNumber ss_BadNumber, k_BadWord_BadName := kitN cl_BadName ety4 s_BadWord_BadName ss_BadName, k_BadWord_BadEntry := kitN cl_BadEntry ety5 s_BadWord_BadEntry ss_BadEntry, k_BadWord_BadLine := kitN cl_BadLine ety6 s_BadWord_BadLine ss_BadLine, k_BadWord_Mismatch := kitN cl_Mismatch ety7 s_BadWord_Mismatch ss_Mismatch, k_BadWord_TooLarge := kitN cl_TooLarge ety8 s_BadWord_TooLarge ss_TooLarge, k_BadWord_ValueError := kitB (by decide +kernel) s_BadWord_ValueError, x_BadWord_LagError := exmR eex0 cl_LagError ety0 s_BadWord_LagError, k_BadName_BadLetters := kitN cl_BadLetters ety1 s_BadName_BadLetters ss_BadLetters, k_BadName_BadWord := kitN cl_BadWord ety2 s_BadName_BadWord ss_BadWord, k_BadName_BadNumber := kitN cl_BadNumber ety3 s_BadName_BadNumber ss_BadNumber, k_BadName_BadName := kitY cl_BadName ety4 ss_BadName, k_BadName_BadEntry := kitN cl_BadEntry ety5 s_BadName_BadEntry ss_BadEntry, k_BadName_BadLine := kitN cl_BadLine ety6 s_BadName_BadLine ss_BadLine, k_BadName_Mismatch := kitN cl_Mismatch ety7 s_BadName_Mismatch ss_Mismatch, k_BadName_TooLarge := kitN cl_TooLarge ety8 s_BadName_TooLarge ss_TooLarge, k_BadName_ValueError := kitB (by decide +kernel) s_BadName_ValueError, x_BadName_LagError := exmR eex0 cl_LagError ety0 s_BadName_LagError, z_ValueError := PySem.W.mg_none_of X G z_ValueError, z_all := PySem.W.mg_none_of X G z_all, z_bool := PySem.W.mg_none_of X G z_bool, z_divmod := PySem.W.mg_none_of X G z_divmod, z_int := PySem.W.mg_none_of X G z_int, z_isinstance := PySem.W.mg_none_of X G z_isinstance, z_len := PySem.W.mg_none_of X G z_len, z_list := PySem.W.mg_none_of X G z_list, z_max := PySem.W.mg_none_of X G z_max, z_min := PySem.W.mg_none_of X G z_min, z_range := PySem.W.mg_none_of X G z_range, z_reversed := PySem.W.mg_none_of X G z_reversed, z_set := PySem.W.mg_none_of X G z_set, z_sorted := PySem.W.mg_none_of X G z_sorted, z_str := PySem.W.mg_none_of X G z_str, z_tuple := PySem.W.mg_none_of X G z_tuple, t_MAX_LETTERS := t_MAX_LETTERS, c_MAX_LETTERS := PySem.W.mg_of X G c_MAX_LETTERS, t_MAX_NAME := t_MAX_NAME, c_MAX_NAME := PySem.W.mg_of X G c_MAX_NAME, t_MAX_READ := t_MAX_READ, c_MAX_READ := PySem.W.mg_of X G c_MAX_READ, t_SMALL_LETTERS := t_SMALL_LETTERS, c_SMALL_LETTERS := PySem.W.mg_of X G c_SMALL_LETTERS, t_DIGITS := t_DIGITS, c_DIGITS := PySem.W.mg_of X G c_DIGITS, t_MAX_ALL_WORDS := t_MAX_ALL_WORDS, c_MAX_ALL_WORDS := PySem.W.mg_of X G c_MAX_ALL_WORDS }⟩
end Lb
open PySem PySem.W PyProof.Rows
set_option maxHeartbeats 0 in
theorem PySem.Challenge.cw_lagbound_k03_checkers_holds : PySem.Challenge.rw_lagbound_k03_checkers.Holds := by
  w_on; o_law; k_head; (case hw => w_witness2)
  k_fill
  refine Lb.walk_tabs (l := PySem.Challenge.rw_lagbound_k03_checkers) (n := 63) (k := 14 + 1) (x := "script") (CX := fun _ => L2.CX0) rfl (by decide) rfl ⟨rfl, by decide, by decide⟩ (fun w h Y => by first | exact PySem.W.kIn_of Y | exact Y.1) ?F (fun _ _ _ _ _ h => h)
  case F =>
    intro w mg fa h KX G hmg E
    refine' Lb.all_mk KX G hmg E ?a0 ?l0 ?k0 ?c_0 ?a1 ?l1 ?k1 ?c_1 ?a2 ?l2 ?k2 ?c_2 ?a3 ?l3 ?k3 ?c_3 ?r3 ?p3 ?n3 ?h3 ?y3 ?a4 ?l4 ?k4 ?c_4 ?r4 ?p4 ?n4 ?h4 ?y4 ?a5 ?l5 ?k5 ?c_5 ?a6 ?l6 ?k6 ?c_6 ?r6 ?p6 ?n6 ?h6 ?y6 ?a7 ?l7 ?k7 ?c_7 ?a8 ?l8 ?k8 ?c_8 ?a9 ?l9 ?k9 ?c_9 ?a10 ?l10 ?k10 ?c_10 ?a11 ?l11 ?k11 ?c_11 ?a12 ?l12 ?k12 ?c_12 ?a13 ?l13 ?k13 ?c_13 ?a14 ?l14 ?k14 ?c_14 ?a15 ?l15 ?k15 ?c_15 ?a16 ?l16 ?k16 ?c_16 ?a17 ?l17 ?k17 ?c_17 ?a18 ?l18 ?k18 ?c_18 ?a19 ?l19 ?k19 ?c_19 ?a20 ?l20 ?k20 ?c_20 ?a21 ?l21 ?k21 ?c_21 ?a22 ?l22 ?k22 ?c_22 ?a23 ?l23 ?k23 ?c_23 ?a24 ?l24 ?k24 ?c_24 ?a25 ?l25 ?k25 ?c_25 ?a26 ?l26 ?k26 ?c_26 ?a27 ?l27 ?k27 ?c_27 ?a28 ?l28 ?k28 ?c_28 ?a29 ?l29 ?k29 ?c_29 ?a30 ?l30 ?k30 ?c_30 ?a31 ?l31 ?k31 ?c_31 ?a32 ?l32 ?k32 ?c_32 ?a33 ?l33 ?k33 ?c_33 ?a34 ?l34 ?k34 ?c_34 ?a35 ?l35 ?k35 ?c_35 ?a36 ?l36 ?k36 ?c_36 ?a37 ?l37 ?k37 ?c_37 ?a38 ?l38 ?k38 ?c_38 ?a39 ?l39 ?k39 ?c_39 ?a40 ?l40 ?k40 ?c_40 ?a41 ?l41 ?k41 ?c_41 ?a42 ?l42 ?k42 ?c_42 ?r42 ?p42 ?n42 ?h42 ?y42 ?a43 ?l43 ?k43 ?c_43 ?r43 ?p43 ?n43 ?h43 ?y43 ?a44 ?l44 ?k44 ?c_44 ?a45 ?l45 ?k45 ?c_45 ?a46 ?l46 ?k46 ?c_46 ?r46 ?p46 ?n46 ?h46 ?y46 ?sp1 ?sp2 ?ea0 ?el0 ?er0 ?esa0 ?eex0 ?ety0 ?ekp0 ?ega0 ?egg0 ?ehd0 ?eca0 ?emr0 ?ea1 ?el1 ?er1 ?esa1 ?eex1 ?ety1 ?ekp1 ?ega1 ?egg1 ?ehd1 ?eca1 ?emr1 ?iI1 ?tI1 ?lI1 ?cI1 ?kI1 ?eno1_value ?ea2 ?el2 ?er2 ?esa2 ?eex2 ?ety2 ?ekp2 ?ega2 ?egg2 ?ehd2 ?eca2 ?emr2 ?iI2 ?tI2 ?lI2 ?cI2 ?kI2 ?eno2_value ?ea3 ?el3 ?er3 ?esa3 ?eex3 ?ety3 ?ekp3 ?ega3 ?egg3 ?ehd3 ?eca3 ?emr3 ?iI3 ?tI3 ?lI3 ?cI3 ?kI3 ?eno3_value ?ea4 ?el4 ?er4 ?esa4 ?eex4 ?ety4 ?ekp4 ?ega4 ?egg4 ?ehd4 ?eca4 ?emr4 ?iI4 ?tI4 ?lI4 ?cI4 ?kI4 ?eno4_value ?ea5 ?el5 ?er5 ?esa5 ?eex5 ?ety5 ?ekp5 ?ega5 ?egg5 ?ehd5 ?eca5 ?emr5 ?iI5 ?tI5 ?lI5 ?cI5 ?kI5 ?eno5_place ?eno5_index ?ea6 ?el6 ?er6 ?esa6 ?eex6 ?ety6 ?ekp6 ?ega6 ?egg6 ?ehd6 ?eca6 ?emr6 ?iI6 ?tI6 ?lI6 ?cI6 ?kI6 ?eno6_line ?eno6_place ?ea7 ?el7 ?er7 ?esa7 ?eex7 ?ety7 ?ekp7 ?ega7 ?egg7 ?ehd7 ?eca7 ?emr7 ?ea8 ?el8 ?er8 ?esa8 ?eex8 ?ety8 ?ekp8 ?ega8 ?egg8 ?ehd8 ?eca8 ?emr8 ?iI8 ?tI8 ?lI8 ?cI8 ?kI8 ?eno8_what ?eno8_limit ?cl_BadLetters ?ss_BadLetters ?cl_BadWord ?ss_BadWord ?cl_BadNumber ?ss_BadNumber ?cl_BadName ?ss_BadName ?cl_BadEntry ?ss_BadEntry ?cl_BadLine ?ss_BadLine ?cl_Mismatch ?ss_Mismatch ?cl_TooLarge ?ss_TooLarge ?cl_LagError ?ss_LagError ?s_BadNumber_BadLetters ?s_BadNumber_BadWord ?s_BadNumber_BadName ?s_BadNumber_BadEntry ?s_BadNumber_BadLine ?s_BadNumber_Mismatch ?s_BadNumber_TooLarge ?s_BadNumber_ValueError ?s_BadNumber_LagError ?s_BadLetters_BadWord ?s_BadLetters_BadNumber ?s_BadLetters_BadName ?s_BadLetters_BadEntry ?s_BadLetters_BadLine ?s_BadLetters_Mismatch ?s_BadLetters_TooLarge ?s_BadLetters_ValueError ?s_BadLetters_LagError ?s_BadWord_BadLetters ?s_BadWord_BadNumber ?s_BadWord_BadName ?s_BadWord_BadEntry ?s_BadWord_BadLine ?s_BadWord_Mismatch ?s_BadWord_TooLarge ?s_BadWord_ValueError ?s_BadWord_LagError ?s_BadName_BadLetters ?s_BadName_BadWord ?s_BadName_BadNumber ?s_BadName_BadEntry ?s_BadName_BadLine ?s_BadName_Mismatch ?s_BadName_TooLarge ?s_BadName_ValueError ?s_BadName_LagError ?z_ValueError ?z_all ?z_bool ?z_divmod ?z_int ?z_isinstance ?z_len ?z_list ?z_max ?z_min ?z_range ?z_reversed ?z_set ?z_sorted ?z_str ?z_tuple ?c_MAX_LETTERS ?c_MAX_NAME ?c_MAX_READ ?c_SMALL_LETTERS ?c_DIGITS ?c_MAX_ALL_WORDS ?one
    (case a0 => k_is)
    (case l0 => k_is)
    (case k0 => k_is)
    (case c_0 => k_is)
    (case a1 => k_is)
    (case l1 => k_is)
    (case k1 => k_is)
    (case c_1 => k_is)
    (case a2 => k_is)
    (case l2 => k_is)
    (case k2 => k_is)
    (case c_2 => k_is)
    (case a3 => k_is)
    (case l3 => k_is)
    (case k3 => k_is)
    (case c_3 => k_is)
    (case r3 => k_is)
    (case p3 => first | rfl | k_is)
    (case n3 => first | k_is | rfl | decide +kernel)
    (case h3 => kernel_rfl)
    (case y3 => decide +kernel)
    (case a4 => k_is)
    (case l4 => k_is)
    (case k4 => k_is)
    (case c_4 => k_is)
    (case r4 => k_is)
    (case p4 => first | rfl | k_is)
    (case n4 => first | k_is | rfl | decide +kernel)
    (case h4 => kernel_rfl)
    (case y4 => decide +kernel)
    (case a5 => k_is)
    (case l5 => k_is)
    (case k5 => k_is)
    (case c_5 => k_is)
    (case a6 => k_is)
    (case l6 => k_is)
    (case k6 => k_is)
    (case c_6 => k_is)
    (case r6 => k_is)
    (case p6 => first | rfl | k_is)
    (case n6 => first | k_is | rfl | decide +kernel)
    (case h6 => kernel_rfl)
    (case y6 => decide +kernel)
    (case a7 => k_is)
    (case l7 => k_is)
    (case k7 => k_is)
    (case c_7 => k_is)
    (case a8 => k_is)
    (case l8 => k_is)
    (case k8 => k_is)
    (case c_8 => k_is)
    (case a9 => k_is)
    (case l9 => k_is)
    (case k9 => k_is)
    (case c_9 => k_is)
    (case a10 => k_is)
    (case l10 => k_is)
    (case k10 => k_is)
    (case c_10 => k_is)
    (case a11 => k_is)
    (case l11 => k_is)
    (case k11 => k_is)
    (case c_11 => k_is)
    (case a12 => k_is)
    (case l12 => k_is)
    (case k12 => k_is)
    (case c_12 => k_is)
    (case a13 => k_is)
    (case l13 => k_is)
    (case k13 => k_is)
    (case c_13 => k_is)
    (case a14 => k_is)
    (case l14 => k_is)
    (case k14 => k_is)
    (case c_14 => k_is)
    (case a15 => k_is)
    (case l15 => k_is)
    (case k15 => k_is)
    (case c_15 => k_is)
    (case a16 => k_is)
    (case l16 => k_is)
    (case k16 => k_is)
    (case c_16 => k_is)
    (case a17 => k_is)
    (case l17 => k_is)
    (case k17 => k_is)
    (case c_17 => k_is)
    (case a18 => k_is)
    (case l18 => k_is)
    (case k18 => k_is)
    (case c_18 => k_is)
    (case a19 => k_is)
    (case l19 => k_is)
    (case k19 => k_is)
    (case c_19 => k_is)
    (case a20 => k_is)
    (case l20 => k_is)
    (case k20 => k_is)
    (case c_20 => k_is)
    (case a21 => k_is)
    (case l21 => k_is)
    (case k21 => k_is)
    (case c_21 => k_is)
    (case a22 => k_is)
    (case l22 => k_is)
    (case k22 => k_is)
    (case c_22 => k_is)
    (case a23 => k_is)
    (case l23 => k_is)
    (case k23 => k_is)
    (case c_23 => k_is)
    (case a24 => k_is)
    (case l24 => k_is)
    (case k24 => k_is)
    (case c_24 => k_is)
    (case a25 => k_is)
    (case l25 => k_is)
    (case k25 => k_is)
    (case c_25 => k_is)
    (case a26 => k_is)
    (case l26 => k_is)
    (case k26 => k_is)
    (case c_26 => k_is)
    (case a27 => k_is)
    (case l27 => k_is)
    (case k27 => k_is)
    (case c_27 => k_is)
    (case a28 => k_is)
    (case l28 => k_is)
    (case k28 => k_is)
    (case c_28 => k_is)
    (case a29 => k_is)
    (case l29 => k_is)
    (case k29 => k_is)
    (case c_29 => k_is)
    (case a30 => k_is)
    (case l30 => k_is)
    (case k30 => k_is)
    (case c_30 => k_is)
    (case a31 => k_is)
    (case l31 => k_is)
    (case k31 => k_is)
    (case c_31 => k_is)
    (case a32 => k_is)
    (case l32 => k_is)
    (case k32 => k_is)
    (case c_32 => k_is)
    (case a33 => k_is)
    (case l33 => k_is)
    (case k33 => k_is)
    (case c_33 => k_is)
    (case a34 => k_is)
    (case l34 => k_is)
    (case k34 => k_is)
    (case c_34 => k_is)
    (case a35 => k_is)
    (case l35 => k_is)
    (case k35 => k_is)
    (case c_35 => k_is)
    (case a36 => k_is)
    (case l36 => k_is)
    (case k36 => k_is)
    (case c_36 => k_is)
    (case a37 => k_is)
    (case l37 => k_is)
    (case k37 => k_is)
    (case c_37 => k_is)
    (case a38 => k_is)
    (case l38 => k_is)
    (case k38 => k_is)
    (case c_38 => k_is)
    (case a39 => k_is)
    (case l39 => k_is)
    (case k39 => k_is)
    (case c_39 => k_is)
    (case a40 => k_is)
    (case l40 => k_is)
    (case k40 => k_is)
    (case c_40 => k_is)
    (case a41 => k_is)
    (case l41 => k_is)
    (case k41 => k_is)
    (case c_41 => k_is)
    (case a42 => k_is)
    (case l42 => k_is)
    (case k42 => k_is)
    (case c_42 => k_is)
    (case r42 => k_is)
    (case p42 => first | rfl | k_is)
    (case n42 => first | k_is | rfl | decide +kernel)
    (case h42 => kernel_rfl)
    (case y42 => decide +kernel)
    (case a43 => k_is)
    (case l43 => k_is)
    (case k43 => k_is)
    (case c_43 => k_is)
    (case r43 => k_is)
    (case p43 => first | rfl | k_is)
    (case n43 => first | k_is | rfl | decide +kernel)
    (case h43 => kernel_rfl)
    (case y43 => decide +kernel)
    (case a44 => k_is)
    (case l44 => k_is)
    (case k44 => k_is)
    (case c_44 => k_is)
    (case a45 => k_is)
    (case l45 => k_is)
    (case k45 => k_is)
    (case c_45 => k_is)
    (case a46 => k_is)
    (case l46 => k_is)
    (case k46 => k_is)
    (case c_46 => k_is)
    (case r46 => k_is)
    (case p46 => first | rfl | k_is)
    (case n46 => first | k_is | rfl | decide +kernel)
    (case h46 => kernel_rfl)
    (case y46 => decide +kernel)
    (case sp1 => k_is)
    (case sp2 => k_is)
    (case ea0 => k_is)
    (case el0 => k_is)
    (case er0 => first | rfl | decide +kernel)
    (case esa0 => k_is)
    (case eex0 => k_is)
    (case ety0 => k_is)
    (case ekp0 => k_is)
    (case ega0 => k_is)
    (case egg0 => k_is)
    (case ehd0 => k_is)
    (case eca0 => k_is)
    (case emr0 => k_is)
    (case ea1 => k_is)
    (case el1 => k_is)
    (case er1 => first | rfl | decide +kernel)
    (case esa1 => k_is)
    (case eex1 => k_is)
    (case ety1 => k_is)
    (case ekp1 => k_is)
    (case ega1 => k_is)
    (case egg1 => k_is)
    (case ehd1 => k_is)
    (case eca1 => k_is)
    (case emr1 => k_is)
    (case iI1 => k_is)
    (case tI1 => k_is)
    (case lI1 => k_is)
    (case cI1 => k_is)
    (case kI1 => k_is)
    (case eno1_value => k_is)
    (case ea2 => k_is)
    (case el2 => k_is)
    (case er2 => first | rfl | decide +kernel)
    (case esa2 => k_is)
    (case eex2 => k_is)
    (case ety2 => k_is)
    (case ekp2 => k_is)
    (case ega2 => k_is)
    (case egg2 => k_is)
    (case ehd2 => k_is)
    (case eca2 => k_is)
    (case emr2 => k_is)
    (case iI2 => k_is)
    (case tI2 => k_is)
    (case lI2 => k_is)
    (case cI2 => k_is)
    (case kI2 => k_is)
    (case eno2_value => k_is)
    (case ea3 => k_is)
    (case el3 => k_is)
    (case er3 => first | rfl | decide +kernel)
    (case esa3 => k_is)
    (case eex3 => k_is)
    (case ety3 => k_is)
    (case ekp3 => k_is)
    (case ega3 => k_is)
    (case egg3 => k_is)
    (case ehd3 => k_is)
    (case eca3 => k_is)
    (case emr3 => k_is)
    (case iI3 => k_is)
    (case tI3 => k_is)
    (case lI3 => k_is)
    (case cI3 => k_is)
    (case kI3 => k_is)
    (case eno3_value => k_is)
    (case ea4 => k_is)
    (case el4 => k_is)
    (case er4 => first | rfl | decide +kernel)
    (case esa4 => k_is)
    (case eex4 => k_is)
    (case ety4 => k_is)
    (case ekp4 => k_is)
    (case ega4 => k_is)
    (case egg4 => k_is)
    (case ehd4 => k_is)
    (case eca4 => k_is)
    (case emr4 => k_is)
    (case iI4 => k_is)
    (case tI4 => k_is)
    (case lI4 => k_is)
    (case cI4 => k_is)
    (case kI4 => k_is)
    (case eno4_value => k_is)
    (case ea5 => k_is)
    (case el5 => k_is)
    (case er5 => first | rfl | decide +kernel)
    (case esa5 => k_is)
    (case eex5 => k_is)
    (case ety5 => k_is)
    (case ekp5 => k_is)
    (case ega5 => k_is)
    (case egg5 => k_is)
    (case ehd5 => k_is)
    (case eca5 => k_is)
    (case emr5 => k_is)
    (case iI5 => k_is)
    (case tI5 => k_is)
    (case lI5 => k_is)
    (case cI5 => k_is)
    (case kI5 => k_is)
    (case eno5_place => k_is)
    (case eno5_index => k_is)
    (case ea6 => k_is)
    (case el6 => k_is)
    (case er6 => first | rfl | decide +kernel)
    (case esa6 => k_is)
    (case eex6 => k_is)
    (case ety6 => k_is)
    (case ekp6 => k_is)
    (case ega6 => k_is)
    (case egg6 => k_is)
    (case ehd6 => k_is)
    (case eca6 => k_is)
    (case emr6 => k_is)
    (case iI6 => k_is)
    (case tI6 => k_is)
    (case lI6 => k_is)
    (case cI6 => k_is)
    (case kI6 => k_is)
    (case eno6_line => k_is)
    (case eno6_place => k_is)
    (case ea7 => k_is)
    (case el7 => k_is)
    (case er7 => first | rfl | decide +kernel)
    (case esa7 => k_is)
    (case eex7 => k_is)
    (case ety7 => k_is)
    (case ekp7 => k_is)
    (case ega7 => k_is)
    (case egg7 => k_is)
    (case ehd7 => k_is)
    (case eca7 => k_is)
    (case emr7 => k_is)
    (case ea8 => k_is)
    (case el8 => k_is)
    (case er8 => first | rfl | decide +kernel)
    (case esa8 => k_is)
    (case eex8 => k_is)
    (case ety8 => k_is)
    (case ekp8 => k_is)
    (case ega8 => k_is)
    (case egg8 => k_is)
    (case ehd8 => k_is)
    (case eca8 => k_is)
    (case emr8 => k_is)
    (case iI8 => k_is)
    (case tI8 => k_is)
    (case lI8 => k_is)
    (case cI8 => k_is)
    (case kI8 => k_is)
    (case eno8_what => k_is)
    (case eno8_limit => k_is)
    (case cl_BadLetters => k_is)
    (case ss_BadLetters => k_is)
    (case cl_BadWord => k_is)
    (case ss_BadWord => k_is)
    (case cl_BadNumber => k_is)
    (case ss_BadNumber => k_is)
    (case cl_BadName => k_is)
    (case ss_BadName => k_is)
    (case cl_BadEntry => k_is)
    (case ss_BadEntry => k_is)
    (case cl_BadLine => k_is)
    (case ss_BadLine => k_is)
    (case cl_Mismatch => k_is)
    (case ss_Mismatch => k_is)
    (case cl_TooLarge => k_is)
    (case ss_TooLarge => k_is)
    (case cl_LagError => k_is)
    (case ss_LagError => k_is)
    (case s_BadNumber_BadLetters => k_is)
    (case s_BadNumber_BadWord => k_is)
    (case s_BadNumber_BadName => k_is)
    (case s_BadNumber_BadEntry => k_is)
    (case s_BadNumber_BadLine => k_is)
    (case s_BadNumber_Mismatch => k_is)
    (case s_BadNumber_TooLarge => k_is)
    (case s_BadNumber_ValueError => k_is)
    (case s_BadNumber_LagError => k_is)
    (case s_BadLetters_BadWord => k_is)
    (case s_BadLetters_BadNumber => k_is)
    (case s_BadLetters_BadName => k_is)
    (case s_BadLetters_BadEntry => k_is)
    (case s_BadLetters_BadLine => k_is)
    (case s_BadLetters_Mismatch => k_is)
    (case s_BadLetters_TooLarge => k_is)
    (case s_BadLetters_ValueError => k_is)
    (case s_BadLetters_LagError => k_is)
    (case s_BadWord_BadLetters => k_is)
    (case s_BadWord_BadNumber => k_is)
    (case s_BadWord_BadName => k_is)
    (case s_BadWord_BadEntry => k_is)
    (case s_BadWord_BadLine => k_is)
    (case s_BadWord_Mismatch => k_is)
    (case s_BadWord_TooLarge => k_is)
    (case s_BadWord_ValueError => k_is)
    (case s_BadWord_LagError => k_is)
    (case s_BadName_BadLetters => k_is)
    (case s_BadName_BadWord => k_is)
    (case s_BadName_BadNumber => k_is)
    (case s_BadName_BadEntry => k_is)
    (case s_BadName_BadLine => k_is)
    (case s_BadName_Mismatch => k_is)
    (case s_BadName_TooLarge => k_is)
    (case s_BadName_ValueError => k_is)
    (case s_BadName_LagError => k_is)
    (case z_ValueError => k_is)
    (case z_all => k_is)
    (case z_bool => k_is)
    (case z_divmod => k_is)
    (case z_int => k_is)
    (case z_isinstance => k_is)
    (case z_len => k_is)
    (case z_list => k_is)
    (case z_max => k_is)
    (case z_min => k_is)
    (case z_range => k_is)
    (case z_reversed => k_is)
    (case z_set => k_is)
    (case z_sorted => k_is)
    (case z_str => k_is)
    (case z_tuple => k_is)
    (case c_MAX_LETTERS => k_is)
    (case c_MAX_NAME => k_is)
    (case c_MAX_READ => k_is)
    (case c_SMALL_LETTERS => k_is)
    (case c_DIGITS => k_is)
    (case c_MAX_ALL_WORDS => k_is)
    (case one => decide +kernel)
