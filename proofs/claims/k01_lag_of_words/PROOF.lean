import PyProof.Rows.All
import Wide.All
import OpenK.AllK
import Wide.FinOn
import PyProof.EqAt
import PyProof.EqKinds
import PyProof.TupleCall
import HandS.ForMost
import PyProof.Rows.StrMul
import HandS.Lambda
import HandS.AnyAll
import HandS.EndTab
import HandS.IsInst
import KE.GoesZip
import KE.GoesMore
import HandS.Codes
import KE.DatumOrd
import HandS.Walk
import PySem.Challenge.RW_lagbound_k01_lag_of_words
set_option Elab.async false
set_option linter.all false
set_option maxRecDepth 100000
set_option maxHeartbeats 4000000
namespace Lb
open PySem PySem.Spec PyProof.Rows L2
/-! ### texts as lists of their signs -/
def cs (x : Str) : List Nat := x.cps.toList
theorem cs_len (x : Str) : (cs x).length = x.length := by
  show x.cps.toList.length = x.cps.size
  rw [Array.length_toList]
theorem cs_ext {x y : Str} (h : cs x = cs y) : x = y := Str.ext' (Array.toList_inj.mp h)
theorem cs_app (x y : Str) : cs (x ++ y) = cs x ++ cs y := by
  show (x.cps ++ y.cps).toList = x.cps.toList ++ y.cps.toList
  rw [Array.toList_append]
theorem cs_mk (l : List Nat) : cs ⟨l.toArray⟩ = l := by
  show l.toArray.toList = l
  rfl
theorem cs_one (c : Nat) : cs ⟨#[c]⟩ = [c] := rfl
theorem cs_empty : cs (Str.ofString "") = [] := by decide +kernel
theorem foldl_app (ls : List (Array Nat)) : ∀ a : Array Nat, (ls.foldl (· ++ ·) a).toList = a.toList ++ (ls.map Array.toList).flatten := by
  induction ls with
  | nil => intro a; simp
  | cons x r ih => intro a; rw [List.foldl_cons, ih]; simp
theorem cs_mul (x : Str) (n : Int) : cs (Txt.mul x n) = (List.replicate n.toNat (cs x)).flatten := by
  unfold Txt.mul
  by_cases h1 : n < 1
  · rw [if_pos h1]
    have e : n.toNat = 0 := by omega
    rw [e]
    rfl
  · rw [if_neg h1]
    by_cases h2 : (n == 1 || x.length == 0) = true
    · rw [if_pos h2]
      rw [Bool.or_eq_true, beq_iff_eq, beq_iff_eq] at h2
      rcases h2 with rfl | h2
      · show cs x = (List.replicate 1 (cs x)).flatten
        simp
      · have e : cs x = [] := List.length_eq_zero_iff.mp (by rw [cs_len]; exact h2)
        rw [e]
        simp
    · rw [if_neg h2]
      show ((List.replicate n.toNat x.cps).foldl (· ++ ·) #[]).toList = _
      rw [foldl_app]
      simp [cs]
theorem mem_mul {x : Str} {n : Int} {c : Nat} (h : c ∈ cs (Txt.mul x n)) : c ∈ cs x := by
  rw [cs_mul, List.mem_flatten] at h
  obtain ⟨l, hl, hc⟩ := h
  rw [(List.mem_replicate.mp hl).2] at hc
  exact hc
theorem length_mul (x : Str) (n : Int) : (Txt.mul x n).length = x.length * n.toNat := by
  have e : ∀ k : Nat, ((List.replicate k (cs x)).flatten).length = x.length * k := by
    intro k
    induction k with
    | zero => rfl
    | succ k ih => rw [List.replicate_succ, List.flatten_cons, List.length_append, ih, cs_len, Nat.mul_succ, Nat.add_comm]
  rw [← cs_len, cs_mul]
  exact e _
theorem op_rep_str {X : Cx} : OpR X (binaryOp .Mult) (fun x y H Q => ∃ (i : Str) (n : Int), x = .str i ∧ y = .int n ∧ i.length ≤ 16 ∧ -(2 ^ 62) ≤ n ∧ n ≤ 1048576 ∧ Q (.str (Txt.mul i n)) H) := by
  intro pins s σ H x y v u Q I rx ry h
  obtain ⟨i, n, rfl, rfl, hi, h0, h1, q⟩ := h
  obtain ⟨t, rfl⟩ := rx
  obtain ⟨t', rfl⟩ := ry
  exact SB.mul (mulOk_of 16 1048576 hi h1 (by omega) (by decide) (by decide)) fun t' tk => ⟨.str (Txt.mul i n), H, I.tok _, ⟨_, rfl⟩, q⟩
theorem cs_cut (z : Str) (lo hi : Option Int) : cs (cutS z lo hi) = ((cs z).drop (HT.sIx z.length 0 lo)).take (HT.sIx z.length z.length hi - HT.sIx z.length 0 lo) := rfl
theorem cs_upto (z : Str) (k : Nat) : cs (cutS z none (some (k : Int))) = (cs z).take k := by
  rw [cs_cut, HT.sIx_none, HT.sIx_nat, List.drop_zero, Nat.sub_zero, ← cs_len]
  by_cases h : k ≤ (cs z).length
  · rw [Nat.min_eq_left h]
  · rw [Nat.min_eq_right (by omega), List.take_of_length_le (Nat.le_refl _), List.take_of_length_le (by omega)]
theorem cs_from (z : Str) (k : Nat) : cs (cutS z (some (k : Int)) none) = (cs z).drop k := by
  rw [cs_cut, HT.sIx_none, HT.sIx_nat, ← cs_len]
  by_cases h : k ≤ (cs z).length
  · rw [Nat.min_eq_left h, List.take_of_length_le (by rw [List.length_drop]; omega)]
  · rw [Nat.min_eq_right (by omega), Nat.sub_self, List.take_zero, List.drop_eq_nil_of_le (by omega)]
theorem mem_cut {z : Str} {lo hi : Option Int} {c : Nat} (h : c ∈ cs (cutS z lo hi)) : c ∈ cs z := by
  rw [cs_cut] at h
  exact List.mem_of_mem_drop (List.mem_of_mem_take h)
theorem cut_len (z : Str) (lo hi : Option Int) : (cutS z lo hi).length ≤ z.length := cutS_length z lo hi
theorem join_nil : Txt.join (Str.ofString "") [] = Str.ofString "" := rfl
theorem cs_join0 : ∀ ys : List Str, cs (Txt.join (Str.ofString "") ys) = (ys.map cs).flatten
  | [] => cs_empty
  | [x] => by
    show cs x = ([x].map cs).flatten
    simp
  | x :: y :: r => by
    have e : Txt.join (Str.ofString "") (x :: y :: r) = x ++ Str.ofString "" ++ Txt.join (Str.ofString "") (y :: r) := by
      unfold Txt.join
      first
        | rfl
        | (rw [StrLaws.glued_eq_join, StrLaws.glued_eq_join]; rfl)
    rw [e, cs_app, cs_app, cs_empty, cs_join0 (y :: r)]
    simp
/-- the word's letters are letters of z -/
def Over (z w : Str) : Prop := ∀ c ∈ cs w, c ∈ cs z
theorem Over.app {z x y : Str} (h : Over z x) (k : Over z y) : Over z (x ++ y) := fun c m => by
  rw [cs_app] at m
  rcases List.mem_append.mp m with m | m
  · exact h c m
  · exact k c m
theorem Over.mul {z x : Str} {n : Int} (h : Over z x) : Over z (Txt.mul x n) := fun c m => h c (mem_mul m)
theorem Over.cut {z x : Str} {lo hi : Option Int} (h : Over z x) : Over z (cutS x lo hi) := fun c m => h c (mem_cut m)
theorem Over.one {z : Str} {c : Nat} (h : c ∈ cs z) : Over z ⟨#[c]⟩ := fun d m => by
  rw [cs_one] at m
  rw [List.mem_singleton.mp m]
  exact h
theorem Over.empty {z : Str} : Over z (Str.ofString "") := fun c m => by
  rw [cs_empty] at m
  exact absurd m List.not_mem_nil
theorem length_app (x y : Str) : (x ++ y).length = x.length + y.length := Str.length_append x y
theorem small_text {n : Nat} (h : n ≤ 1000000) : n ≤ sizeLine := Nat.le_trans h (by decide)
end Lb
namespace Lb
open PySem PySem.Spec PyProof.Rows L2
def abc : Str := Str.ofString "abcdefghijklmnopqrstuvwxyz"
theorem cs_abc : cs abc = List.range' 97 26 := by decide +kernel
theorem len_abc : abc.length = 26 := by decide +kernel
/-- one to four letters from a to z, ascending -/
structure IsAlpha (z : Str) : Prop where
  asc : (cs z).Pairwise (· < ·)
  low : ∀ c ∈ cs z, 97 ≤ c ∧ c ≤ 122
  len1 : 1 ≤ z.length
  len4 : z.length ≤ 4
theorem IsAlpha.small {z : Str} (h : IsAlpha z) : z.length ≤ 1000000 := Nat.le_trans h.len4 (by decide)
theorem IsAlpha.nodup {z : Str} (h : IsAlpha z) : (cs z).Nodup := h.asc.imp fun e => Nat.ne_of_lt e
theorem abc_asc : (cs abc).Pairwise (· < ·) := by
  rw [cs_abc]
  exact List.pairwise_lt_range'
theorem abc_low : ∀ c ∈ cs abc, 97 ≤ c ∧ c ≤ 122 := fun c h => by
  rw [cs_abc, List.mem_range'_1] at h
  omega
theorem abc_upto {k : Nat} (h1 : 1 ≤ k) (h4 : k ≤ 4) : IsAlpha (cutS abc none (some (k : Int))) where
  asc := by
    rw [cs_upto]
    exact abc_asc.sublist (List.take_sublist _ _)
  low := fun c h => abc_low c (mem_cut h)
  len1 := by
    rw [← cs_len, cs_upto, List.length_take, cs_len, len_abc]
    omega
  len4 := by
    rw [← cs_len, cs_upto, List.length_take, cs_len, len_abc]
    omega
theorem abc_from {k : Nat} (h1 : 22 ≤ k) (h4 : k ≤ 25) : IsAlpha (cutS abc (some (k : Int)) none) where
  asc := by
    rw [cs_from]
    exact abc_asc.sublist (List.drop_sublist _ _)
  low := fun c h => abc_low c (mem_cut h)
  len1 := by
    rw [← cs_len, cs_from, List.length_drop, cs_len, len_abc]
    omega
  len4 := by
    rw [← cs_len, cs_from, List.length_drop, cs_len, len_abc]
    omega
theorem starts_iff (x p : Str) : Txt.startswith x p = decide ((cs x).take p.length = cs p) := by
  unfold Txt.startswith
  rw [StrLaws.subAt_eq, List.drop_zero, Nat.zero_add]
  show (decide (p.length ≤ x.length) && ((cs x).take p.length == cs p)) = _
  by_cases h : (cs x).take p.length = cs p
  · have hl : p.length ≤ x.length := by
      rw [← cs_len, ← h, List.length_take, cs_len]
      omega
    rw [decide_eq_true hl, decide_eq_true h, beq_iff_eq.mpr h]
    rfl
  · rw [decide_eq_false h, beq_eq_false_iff_ne.mpr h, Bool.and_false]
end Lb

namespace Lb
open PySem PySem.Spec PyProof.Rows L2
/-! ### the text's tables of code objects; what stands while a def runs -/
/-- the tables of the text's defs that make generators or lambdas: where they are, and the name their code objects bear -/
class Tabl where
  T : List (Addr × Str)
  one : ∀ p ∈ T, ∀ q ∈ T, p.1 = q.1 → p.2 = q.2
abbrev Good [Tabl] (H : Hp) : Prop := LamX.Tabs Tabl.T H
/-- no table -/
abbrev NoT (o : HO) : Prop := ∀ ps, o ≠ .tbl ps
/-- a list, a dict, a set or an instance: what a def may change -/
def Mut : HO → Prop
  | .lst _ | .dK _ | .dT _ | .set _ _ | .ins _ _ _ => True
  | _ => False
theorem Mut.noT {o : HO} (h : Mut o) : NoT o := fun ps e => by
  rw [e] at h
  exact h
theorem tabS_upd {H : Hp} {P p : Addr} {q : Str} {o : HO} (t : LamX.TabS H P q) (h : H p = none ∨ ∃ u, H p = some u ∧ Mut u) : LamX.TabS (upd H p o) P q := by
  obtain ⟨ps, h1, h2, h3⟩ := t
  have ne : ∀ b u, H b = some u → ¬ Mut u → b ≠ p := fun b u e m z => by
    rw [z] at e
    rcases h with h | ⟨v, h, k⟩
    · rw [h] at e
      cases e
    · rw [h] at e
      rw [Option.some.inj e] at k
      exact m k
  refine ⟨ps, by rw [upd_ne (ne P _ h1 id)]; exact h1, h2, fun pos cv hc => ?_⟩
  obtain ⟨c, e1, e2⟩ := h3 pos cv hc
  exact ⟨c, e1, by rw [upd_ne (ne c _ e2 id)]; exact e2⟩
section
variable [Tabl]
/-- what stood stands; the tables may have grown -/
structure Same (H H' : Hp) : Prop where
  old : ∀ b o, H b = some o → (_ : NoT o := by intro _ z; cases z) → H' b = some o
  tab : ∀ b ps, H b = some (.tbl ps) → ∃ qs, H' b = some (.tbl qs)
  good : Good H → Good H'
instance {H H' : Hp} : CoeFun (Same H H') fun _ => ∀ b o, H b = some o → (_ : NoT o := by intro _ z; cases z) → H' b = some o := ⟨@Same.old _ H H'⟩
theorem Same.refl (H : Hp) : Same H H := ⟨fun _ _ h _ => h, fun _ ps h => ⟨ps, h⟩, id⟩
theorem Same.trans {H H1 H2 : Hp} (p : Same H H1) (q : Same H1 H2) : Same H H2 :=
  ⟨fun b o h n => q.old b o (p.old b o h n) n, fun b ps h => let ⟨qs, e⟩ := p.tab b ps h; q.tab b qs e, fun g => q.good (p.good g)⟩
theorem Same.free {H H' : Hp} {p : Addr} (s : Same H H') (n : H' p = none) : H p = none := by
  cases e : H p with
  | none => rfl
  | some o =>
    by_cases k : NoT o
    · rw [s.old _ _ e k] at n
      cases n
    · have ⟨ps, z⟩ : ∃ ps, o = .tbl ps := Classical.byContradiction fun c => k fun ps z => c ⟨ps, z⟩
      rw [z] at e
      obtain ⟨qs, e'⟩ := s.tab _ _ e
      rw [e'] at n
      cases n
theorem same_new {H : Hp} {p : Addr} {o : HO} (h : H p = none) : Same H (upd H p o) where
  old b x e _ := by
    rw [upd_ne (ne_of_none e h)]
    exact e
  tab b ps e := ⟨ps, by rw [upd_ne (ne_of_none e h)]; exact e⟩
  good g := fun t ht => tabS_upd (g t ht) (.inl h)
/-- all but the object at a stands -/
structure But (a : Addr) (H H' : Hp) : Prop where
  old : ∀ b o, b ≠ a → H b = some o → (_ : NoT o := by intro _ z; cases z) → H' b = some o
  tab : ∀ b ps, H b = some (.tbl ps) → ∃ qs, H' b = some (.tbl qs)
  good : Good H → Good H'
instance {a : Addr} {H H' : Hp} : CoeFun (But a H H') fun _ => ∀ b o, b ≠ a → H b = some o → (_ : NoT o := by intro _ z; cases z) → H' b = some o := ⟨@But.old _ a H H'⟩
theorem But.refl {a : Addr} (H : Hp) : But a H H := ⟨fun _ _ _ h _ => h, fun _ ps h => ⟨ps, h⟩, id⟩
theorem But.trans {a : Addr} {H H1 H2 : Hp} (p : But a H H1) (q : But a H1 H2) : But a H H2 :=
  ⟨fun b o n h k => q.old b o n (p.old b o n h k) k, fun b ps h => let ⟨qs, e⟩ := p.tab b ps h; q.tab b qs e, fun g => q.good (p.good g)⟩
theorem But.same {a : Addr} {H H' : Hp} (p : Same H H') : But a H H' := ⟨fun b o _ h k => p.old b o h k, p.tab, p.good⟩
theorem But.put {a : Addr} {H : Hp} {o u : HO} (h : H a = some u) (m : Mut u := by trivial) : But a H (upd H a o) where
  old b x n e _ := by
    rw [upd_ne n]
    exact e
  tab b ps e := ⟨ps, by
    rw [upd_ne (fun z => by rw [z, h] at e; rw [Option.some.inj e] at m; exact m)]
    exact e⟩
  good g := fun t ht => tabS_upd (g t ht) (.inr ⟨u, h, m⟩)
theorem But.new {a : Addr} {H : Hp} {p : Addr} {o : HO} (h : H p = none) : But a H (upd H p o) := But.same (same_new h)
theorem But.free {a p : Addr} {H H' : Hp} (s : But a H H') (n : H' p = none) (na : p ≠ a) : H p = none := by
  cases e : H p with
  | none => rfl
  | some o =>
    by_cases k : NoT o
    · rw [s.old _ _ na e k] at n
      cases n
    · have ⟨ps, z⟩ : ∃ ps, o = .tbl ps := Classical.byContradiction fun c => k fun ps z => c ⟨ps, z⟩
      rw [z] at e
      obtain ⟨qs, e'⟩ := s.tab _ _ e
      rw [e'] at n
      cases n
/-- a new object, changed since: what stood stands -/
theorem But.grown {a p : Addr} {H H1 H2 : Hp} {o u : HO} (b1 : But a H H1) (n : H1 p = none) (b2 : But a H H2) (h : H2 p = some u) (m : Mut u := by trivial) : But a H (upd H2 p o) where
  old b x hb e k := by
    rw [upd_ne (fun z => by rw [z] at e hb; rw [b1.old _ _ hb e k] at n; cases n)]
    exact b2.old b x hb e k
  tab b ps e := by
    obtain ⟨qs, e'⟩ := b2.tab b ps e
    exact ⟨qs, by rw [upd_ne (fun z => by rw [z, h] at e'; rw [Option.some.inj e'] at m; exact m)]; exact e'⟩
  good g := fun t ht => tabS_upd (b2.good g t ht) (.inr ⟨u, h, m⟩)
/-- a new object, made since and changed: what stood stands -/
theorem Same.grown {p : Addr} {H H1 H2 : Hp} {o u : HO} (b1 : Same H H1) (n : H1 p = none) (b2 : Same H H2) (h : H2 p = some u) (m : Mut u := by trivial) : Same H (upd H2 p o) where
  old b x e k := by
    rw [upd_ne (fun z => by rw [z] at e; rw [b1.old _ _ e k] at n; cases n)]
    exact b2.old b x e k
  tab b ps e := by
    obtain ⟨qs, e'⟩ := b2.tab b ps e
    exact ⟨qs, by rw [upd_ne (fun z => by rw [z, h] at e'; rw [Option.some.inj e'] at m; exact m)]; exact e'⟩
  good g := fun t ht => tabS_upd (b2.good g t ht) (.inr ⟨u, h, m⟩)
/-- a table has grown by a new code object of the name that it bears -/
theorem same_code {H : Hp} {P c : Addr} {q : Str} {ps : Array Value} {pos : Pos} (tab : H P = some (.tbl ps)) (tri : TriplesOk ps.toList) (bears : ∀ (pos : Pos) (cv : Value), codeAmong pos ps.toList = some cv → ∃ c, cv = .ref c ∧ H c = some (LamX.CodeO c q)) (nC : H c = none) (hm : (P, q) ∈ Tabl.T) :
    Same H (upd (upd H P (.tbl (ps ++ #[rawInt pos.line, rawInt pos.col, .ref c]))) c (LamX.CodeO c q)) := by
  have keep : ∀ b o, H b = some o → NoT o → upd (upd H P (.tbl (ps ++ #[rawInt pos.line, rawInt pos.col, .ref c]))) c (LamX.CodeO c q) b = some o := fun b o e n => by
    rw [upd_ne (ne_of_none e nC), upd_ne (fun z => n ps (Option.some.inj (e.symm.trans (by rw [z]; exact tab))))]
    exact e
  have list : (ps ++ #[rawInt pos.line, rawInt pos.col, Value.ref c]).toList = ps.toList ++ [rawInt pos.line, rawInt pos.col, .ref c] := by simp
  refine ⟨keep, fun b qs e => ?_, fun g p hp => ?_⟩
  · by_cases z : b = P
    · exact ⟨_, by rw [z, upd_ne (ne_of_none tab nC), upd_same]⟩
    · exact ⟨qs, by rw [upd_ne (ne_of_none e nC), upd_ne z]; exact e⟩
  · by_cases z : p.1 = P
    · have e2 : p.2 = q := Tabl.one _ hp _ hm z
      rw [z, e2]
      refine ⟨_, by rw [upd_ne (ne_of_none tab nC), upd_same], by rw [list]; exact PySem.TriplesOk_snoc _ _ _ _ tri, fun p' cv h => ?_⟩
      rw [list] at h
      rcases LamX.among_app _ tri h with k | k
      · obtain ⟨c0, e1, e2⟩ := bears p' cv k
        exact ⟨c0, e1, keep _ _ e2 LamX.codeO_ne⟩
      · exact ⟨c, k, upd_same⟩
    · obtain ⟨qs, a1, a2, a3⟩ := g p hp
      refine ⟨qs, by rw [upd_ne (ne_of_none a1 nC), upd_ne z]; exact a1, a2, fun p' cv h => ?_⟩
      obtain ⟨c0, e1, e2⟩ := a3 p' cv h
      exact ⟨c0, e1, keep _ _ e2 LamX.codeO_ne⟩
end
end Lb

namespace Lb
open PySem PySem.Spec PyProof.Rows L2
/-- the tables of the text's defs are empty when the law is called -/
def Empty (names : List Str) (K : PySem.W.Frag) (mg : Str → Option Value) (h : Heap) : Prop :=
  ∀ (x : Str) (f c P : Addr) (o : Obj) (fd : FuncData) (e : Value) (dd : Option Addr) (vs : Array Value) (sl : Array (Option Value)), x ∈ names → mg x = some (.ref f) → K.lookup f = some o → o.data = .func fd → fd.code = .ref c →
    K.lookup c = some ⟨e, dd, .fields vs, sl⟩ → vs[11]? = some (.ref P) → h.get? P = some { cls := .none, data := .fields #[] }
/-- the law: called with at most 63 ints it answers True -/
def sp_law [Tabl] (K : PySem.W.Frag) : Sp := fun vs H Q _ => ∃ (a : Addr) (ns : List Int), vs = [.ref a] ∧ SqL K H a (ns.map V.int) ∧ ns.length ≤ 63 ∧ Good H ∧ ∀ H', Q (.bl true) H'
theorem walk_tabs {l : PySem.W.OpenLaw} {n k : Nat} {q : Program} {loose : List Str} {XP : (Str → Option Value) → Heap → Prop} {YP : World → Heap → Prop} {d : DefRec} {K : Params → PySem.W.Frag} {CX : World → CXT} {x : Str} (most : l.most = some n) (small : n ≤ sizeLine) (plain : d.params.defaults = []) (room : Room k callerA)
    (inK : ∀ (w : World) (h : Heap), YP w h → (K w.params).In h) (F : ∀ (w : World) (mg : Str → Option Value) (fa : Addr) (h : Heap), (K w.params).In h → h.Ns mainGlobals mg → mg d.name = some (.ref fa) → Empty ((recsOf q).map (·.name)) (K w.params) mg h → LamX.LawAtS l w (K w.params) (CX w) k n x mg fa h)
    (none_out : ∀ (w : World) (H : Hp) (s : Shared) (e : Value) (s' : Shared), ¬ CX w [] H s (fun _ _ _ => False) e s') : PySem.W.WalkO q loose XP YP l.row.toRowW d [] (fun f vs => PySem.call f vs) := by
  refine Att.attach_callB most plain fun w s0 s mg mb fa o pm cd doc a vs ns G Y ho hd hcd global obj its len bits gens => ?_
  have KX := inK w _ Y
  have E : Empty ((recsOf q).map (·.name)) (K w.params) mg s.heap := fun y f c P o1 fd1 e dd vs1 sl hy k1 k2 k3 k4 k5 k6 => by
    obtain ⟨r, hr, er⟩ := List.mem_map.mp hy
    obtain ⟨_, _, _, _, _, t1, t2, t3, t4, t5, ⟨oc, vc, u1, _, u3, u4⟩, t6⟩ := G.T.tab r hr
    rw [show r.name = y from er, k1] at t1
    cases t1
    cases (KX _ _ k2).symm.trans t2
    cases k3.symm.trans t3
    cases k4.symm.trans t4
    cases (KX _ _ k5).symm.trans u1
    cases u3
    cases k6.symm.trans u4
    exact t6
  obtain ⟨fd, cs, sp, c1, c2, c3, c4, c5, c6⟩ := F w mg fa _ KX G.T.g global E
  exact LamX.law_callTs KX G.T.g G.T.b G.T.builtins G.T.nolimit gens c1 c2 c3 G.T.bmain obj its (Nat.le_trans len small) room c6 c4 (fun H e hS => c5 H a ns len bits e hS) fun H e s' z => none_out w H s e s' z
end Lb

namespace Lb
open PySem PySem.Spec PyProof.Rows L2
/-! ### plain values by their outermost kind -/
def NoTxt (H : Hp) (v : V) : Prop := v = .non ∨ (∃ b, v = .bl b) ∨ (∃ i, v = .int i) ∨ ∃ p xs, v = .ref p ∧ (H p = some (.lst xs) ∨ H p = some (.tup xs))
def Shal (H : Hp) (v : V) : Prop := (∃ x : Str, v = .str x ∧ x.length ≤ 1000000) ∨ NoTxt H v
theorem NoTxt.same [Tabl] {H H' : Hp} {v : V} (h : NoTxt H v) (s : Same H H') : NoTxt H' v := by
  rcases h with h | h | h | ⟨p, xs, e, h⟩
  · exact .inl h
  · exact .inr (.inl h)
  · exact .inr (.inr (.inl h))
  · exact .inr (.inr (.inr ⟨p, xs, e, h.elim (fun q => .inl (s _ _ q)) fun q => .inr (s _ _ q)⟩))
theorem Shal.same [Tabl] {H H' : Hp} {v : V} (h : Shal H v) (s : Same H H') : Shal H' v := h.elim .inl fun q => .inr (q.same s)
theorem shal_str {H : Hp} {x : Str} (h : x.length ≤ 1000000) : Shal H (.str x) := .inl ⟨x, rfl, h⟩
theorem shal_int {H : Hp} {i : Int} : Shal H (.int i) := .inr (.inr (.inr (.inl ⟨i, rfl⟩)))
theorem noTxt_str {H : Hp} {x : Str} (h : NoTxt H (.str x)) : False := by
  rcases h with h | ⟨b, h⟩ | ⟨i, h⟩ | ⟨p, xs, h, _⟩ <;> cases h
def isStr : V → Bool
  | .str _ => true
  | _ => false
def isInt : V → Bool
  | .int _ => true
  | _ => false
def isBl : V → Bool
  | .bl _ => true
  | _ => false
/-- isinstance(v, str) -/
theorem isi_str {K : PySem.W.Frag} {H : Hp} {v : V} (h : Shal H v) : ∃ t : Value, TyX K H v t ∧ PySem.W.kitOne K t (.type "str") = some (isStr v) := by
  rcases h with ⟨x, rfl, _⟩ | rfl | ⟨b, rfl⟩ | ⟨i, rfl⟩ | ⟨p, xs, rfl, h | h⟩
  · exact ⟨_, .base (.str x), kit_ty (show kitB "str" "str" = some true by decide +kernel)⟩
  · exact ⟨_, .base .non, kit_ty (show kitB "NoneType" "str" = some false by decide +kernel)⟩
  · exact ⟨_, .base (.bl b), kit_ty (show kitB "bool" "str" = some false by decide +kernel)⟩
  · exact ⟨_, .base (.int i), kit_ty (show kitB "int" "str" = some false by decide +kernel)⟩
  · exact ⟨_, .base (.lst h), kit_ty (show kitB "list" "str" = some false by decide +kernel)⟩
  · exact ⟨_, .base (.tup h), kit_ty (show kitB "tuple" "str" = some false by decide +kernel)⟩
/-- isinstance(v, int) -/
theorem isi_int {K : PySem.W.Frag} {H : Hp} {v : V} (h : Shal H v) : ∃ t : Value, TyX K H v t ∧ PySem.W.kitOne K t (.type "int") = some (isInt v || isBl v) := by
  rcases h with ⟨x, rfl, _⟩ | rfl | ⟨b, rfl⟩ | ⟨i, rfl⟩ | ⟨p, xs, rfl, h | h⟩
  · exact ⟨_, .base (.str x), kit_ty (show kitB "str" "int" = some false by decide +kernel)⟩
  · exact ⟨_, .base .non, kit_ty (show kitB "NoneType" "int" = some false by decide +kernel)⟩
  · exact ⟨_, .base (.bl b), kit_ty (show kitB "bool" "int" = some true by decide +kernel)⟩
  · exact ⟨_, .base (.int i), kit_ty (show kitB "int" "int" = some true by decide +kernel)⟩
  · exact ⟨_, .base (.lst h), kit_ty (show kitB "list" "int" = some false by decide +kernel)⟩
  · exact ⟨_, .base (.tup h), kit_ty (show kitB "tuple" "int" = some false by decide +kernel)⟩
/-- isinstance(v, bool) -/
theorem isi_bool {K : PySem.W.Frag} {H : Hp} {v : V} (h : Shal H v) : ∃ t : Value, TyX K H v t ∧ PySem.W.kitOne K t (.type "bool") = some (isBl v) := by
  rcases h with ⟨x, rfl, _⟩ | rfl | ⟨b, rfl⟩ | ⟨i, rfl⟩ | ⟨p, xs, rfl, h | h⟩
  · exact ⟨_, .base (.str x), kit_ty (show kitB "str" "bool" = some false by decide +kernel)⟩
  · exact ⟨_, .base .non, kit_ty (show kitB "NoneType" "bool" = some false by decide +kernel)⟩
  · exact ⟨_, .base (.bl b), kit_ty (show kitB "bool" "bool" = some true by decide +kernel)⟩
  · exact ⟨_, .base (.int i), kit_ty (show kitB "int" "bool" = some false by decide +kernel)⟩
  · exact ⟨_, .base (.lst h), kit_ty (show kitB "list" "bool" = some false by decide +kernel)⟩
  · exact ⟨_, .base (.tup h), kit_ty (show kitB "tuple" "bool" = some false by decide +kernel)⟩
theorem isStr_of {v : V} (h : isStr v = true) : ∃ x, v = .str x := by
  cases v <;> first | exact ⟨_, rfl⟩ | cases h
theorem isInt_of {v : V} (h : isInt v = true) : ∃ x, v = .int x := by
  cases v <;> first | exact ⟨_, rfl⟩ | cases h
theorem Shal.text {H : Hp} {x : Str} (h : Shal H (.str x)) : x.length ≤ 1000000 := by
  rcases h with ⟨y, e, l⟩ | h
  · cases e
    exact l
  · exact (noTxt_str h).elim
end Lb

namespace L2
open PySem PySem.Spec PyProof.Rows
/-! zip of two texts, walked by a for: the pairs of their signs, as many as the shorter one has -/
def Itzs (x y : Str) : It :=
  ⟨fun i _ => i < x.cps.size ∧ i < y.cps.size,
    fun i H v H' => ∃ T c d, v = .ref T ∧ H T = none ∧ x.cps[i]? = some c ∧ y.cps[i]? = some d ∧ H' = upd H T (.tup [.str ⟨#[c]⟩, .str ⟨#[d]⟩]),
    fun i _ => i ≤ x.cps.size ∧ i ≤ y.cps.size ∧ (i = x.cps.size ∨ i = y.cps.size)⟩
theorem turn_zipS {P : Program} {w : World} {K : PySem.W.Frag} {elts : List Expr} {kk : Nat} {tpos : Pos} {x y : Str} {t1 t2 : Tok} {z TI TO i1 i2 : Addr} (D : ZipSep2 z TI TO i1 i2 [i1] [i2]) :
    Turn P w K (.Tuple elts kk tpos) (Itzs x y) [z, TI, TO, i1, i2] z (fun i h => IsZip h z TI TO .none ∧ IsPair h TI (.ref i1) (.ref i2) ∧ (∃ a b, IsPair h TO a b) ∧ h.IsStrIter i1 (strIterType x) x t1 i ∧ h.IsStrIter i2 (strIterType y) y t2 i) where
  mem := by simp
  obj := fun i h st c hc => by
    obtain ⟨hz, hTI, ⟨a, b, hTO⟩, ⟨o1, e1, _, d1⟩, ⟨o2, e2, _, d2⟩⟩ := st
    have e' : c = z ∨ c = TI ∨ c = TO ∨ c = i1 ∨ c = i2 := by simpa using hc
    rcases e' with q | q | q | q | q
    · rw [q]; exact ⟨_, hz, fun v q => nomatch q⟩
    · rw [q]; exact ⟨_, hTI, fun v q => nomatch q⟩
    · rw [q]; exact ⟨_, hTO, fun v q => nomatch q⟩
    · rw [q]; exact ⟨o1, e1, fun v q => by rw [d1] at q; cases q⟩
    · rw [q]; exact ⟨o2, e2, fun v q => by rw [d2] at q; cases q⟩
  keep := fun i h h' st k => by
    obtain ⟨hz, hTI, ⟨a, b, hTO⟩, ⟨o1, e1, r1⟩, ⟨o2, e2, r2⟩⟩ := st
    exact ⟨k z (by simp) _ hz, k TI (by simp) _ hTI, ⟨a, b, k TO (by simp) _ hTO⟩, ⟨o1, k i1 (by simp) _ e1, r1⟩, ⟨o2, k i2 (by simp) _ e2, r2⟩⟩
  item := by
    intro X hP hw hK hc i pins s σ H E I hf st hg
    subst hP hw hK
    obtain ⟨hz, hTI, ⟨x0, y0, hTO⟩, h1, h2⟩ := st
    have hzl : z < s.heap.objs.size := Heap.lt_size hz
    have hh : X.A.in1.handled = none := I.ok.hd hc
    refine wpAny_pyNext_zipD2_item D (Draws.text hh i1 x t1) (Draws.text hh i2 y t2) hz hTI hTO h1 h2 hg.1 hg.2 fun v1 v2 h' tk hv1 hv2 z' TO' h1' h2' hT hsz hk => ?_
    obtain ⟨c, u, hc1, rfl⟩ := hv1
    obtain ⟨d, u', hd1, rfl⟩ := hv2
    refine ⟨_, rfl, wpAny_letOwnedTupleGo_zip (s := { s with heap := h', toks := tk }) z' fun h'' z'' sb => ?_⟩
    have hT2 : h''.get? s.heap.objs.size = some { cls := .type "tuple", data := .seq #[.str ⟨#[c]⟩ u, .str ⟨#[d]⟩ u'] } := (sb.2 _ (Nat.ne_of_gt hzl)).trans hT
    have new : ObjOk X.prog X.w (upd H s.heap.objs.size (.tup [.str ⟨#[c]⟩, .str ⟨#[d]⟩])) h'' s.heap.objs.size (.tup [.str ⟨#[c]⟩, .str ⟨#[d]⟩]) :=
      ⟨by show 2 ≤ sizeLine; decide, [.str ⟨#[c]⟩ u, .str ⟨#[d]⟩ u'], .cons ⟨_, rfl⟩ (.cons ⟨_, rfl⟩ .nil), ⟨_, hT2, rfl, _, rfl⟩⟩
    have I1 : Inv X pins σ (upd H s.heap.objs.size (.tup [.str ⟨#[c]⟩, .str ⟨#[d]⟩])) { s with heap := h'', toks := tk } :=
      I.turnedNew (t' := tk) (ch := [z, TI, TO, i1, i2]) (fun c o hb q => (sb.2 c (fun q' => hb (by simp [q']))).trans (hk c o (fun q' => hb (by simp [q'])) (fun q' => hb (by simp [q'])) (fun q' => hb (by simp [q'])) (fun q' => hb (by simp [q'])) q)) hf (Nat.le_refl _) new
    have g1 : i1 ≠ z := fun e => D.zi1 e.symm
    have g2 : i2 ≠ z := fun e => D.zi2 e.symm
    obtain ⟨o1, e1, r1⟩ := h1'
    obtain ⟨o2, e2, r2⟩ := h2'
    obtain ⟨p1, f1, _⟩ := h1
    obtain ⟨p2, f2, _⟩ := h2
    refine ⟨.ref s.heap.objs.size, _, I1, rfl, ⟨_, c, d, rfl, I.hok.fresh (Nat.le_refl _), hc1, hd1, rfl⟩, ⟨z'', ?_, ⟨_, _, (sb.2 _ D.TOz).trans TO'⟩, ⟨o1, (sb.2 _ g1).trans e1, r1⟩, ⟨o2, (sb.2 _ g2).trans e2, r2⟩⟩, fun c hcm => ?_⟩
    · exact (sb.2 _ D.TIz).trans (hk _ _ D.TIz D.TITO D.TIi1 D.TIi2 hTI)
    · have hlt : c < s.heap.objs.size := by
        have e' : c = z ∨ c = TI ∨ c = TO ∨ c = i1 ∨ c = i2 := by simpa using hcm
        rcases e' with q | q | q | q | q
        · rw [q]; exact hzl
        · rw [q]; exact Heap.lt_size hTI
        · rw [q]; exact Heap.lt_size hTO
        · rw [q]; exact Heap.lt_size f1
        · rw [q]; exact Heap.lt_size f2
      rw [upd_ne (Nat.ne_of_lt hlt)]
      exact (hf c hcm).1
  done := by
    intro X hP hw hK hc i pins s σ H E I hf st hg
    subst hP hw hK
    obtain ⟨hz, hTI, ⟨x0, y0, hTO⟩, h1, h2⟩ := st
    have hh : X.A.in1.handled = none := I.ok.hd hc
    exact wpAny_pyNext_zipD2_end D (Draws.text hh i1 x t1) (Draws.text hh i2 y t2) hz hTI hTO h1 h2 hg.1 hg.2.1 hg.2.2 fun h' tk hk => ⟨rfl, I.turnedL (t' := tk) (ch := [z, TI, TO, i1, i2]) (fun c o hb q =>
      hk c o (fun q' => hb (by simp [q'])) (fun q' => hb (by simp [q'])) (fun q' => hb (by simp [q'])) (fun q' => hb (by simp [q'])) q) hf⟩
  self := fun A i s Q E st h => wpAny_pyIter_zip st.1 h
def iZipS (ta : TA) : TI := fun σ H R => ta σ H fun vs H1 => ∃ x y, vs = [.str x, .str y] ∧ R (Itzs x y) H1
theorem pi_zipS {X : Cx} {e e2 : Expr} {ta : TA} {p pos tpos : Pos} {elts : List Expr} {kk : Nat} (hg : Gl X "zip") (hm : X.mg "zip" = none) (ha : PA X [e, e2] ta)
    (hs : starEach [e, e2] X.env = (false, eval e X.env) :: starEach [e2] X.env := by rfl) (hpl : (backTo pos (starEach [e2] X.env)).any (·.1) = false := by rfl) :
    PI X (.Tuple elts kk tpos) (.Call (.Name "zip" p) [e, e2] [] pos) (iZipS ta) := by
  refine ⟨fun pins s σ H R I h => ?_⟩
  refine Call_ (ld_blt I hg hm PyProof.Rows.boot_zip (PyProof.Rows.callWith_type1 (thn (ha.run pos pins s σ H _ I h) fun us s1 ⟨vs, H1, I1, r1, q1⟩ => ?_) hs hpl))
  obtain ⟨x, y, ex, q⟩ := q1
  subst ex
  cases r1 with
  | cons r rr =>
    cases rr with
    | cons r' rr =>
      cases rr
      obtain ⟨t1, rfl⟩ := r
      obtain ⟨t2, rfl⟩ := r'
      refine zip_begins2 (begins_text x t1) (begins_text y t2) trivial trivial fun h' hz hTI hTO h1 h2 hsz hk => wpAny_pyIter_zip hz ?_
      have I2 : Inv X pins σ H1 { s1 with heap := h' } := I1.kept (t' := s1.toks) hk
      have D : ZipSep2 (s1.heap.objs.size + 4) (s1.heap.objs.size + 2) (s1.heap.objs.size + 3) s1.heap.objs.size (s1.heap.objs.size + 1) [s1.heap.objs.size] [s1.heap.objs.size + 1] := by
        constructor <;> simp <;> omega
      refine ⟨s1.heap.objs.size + 4, [s1.heap.objs.size + 4, s1.heap.objs.size + 2, s1.heap.objs.size + 3, s1.heap.objs.size, s1.heap.objs.size + 1], _, _, H1, rfl, I2, turn_zipS (t1 := t1) (t2 := t2) D, ⟨hz, hTI, ⟨_, _, hTO⟩, ⟨_, h1, rfl, rfl⟩, ⟨_, h2, rfl, rfl⟩⟩, fun c hcm => ?_, q⟩
      have e' : c = s1.heap.objs.size + 4 ∨ c = s1.heap.objs.size + 2 ∨ c = s1.heap.objs.size + 3 ∨ c = s1.heap.objs.size ∨ c = s1.heap.objs.size + 1 := by simpa using hcm
      have hle : s1.heap.objs.size ≤ c := by
        rcases e' with z | z | z | z | z <;> rw [z] <;> omega
      exact I1.fpOk hle (I1.hok.fresh hle)
end L2
namespace L2
open PySem PySem.Spec PyProof.Rows
theorem for_zipS {x y : Str} {g : TG} {tb : TS} {D : Ends} {σ : St} {H : Hp} (Pv : Nat → St → Hp → Prop) (h0 : Pv 0 σ H)
    (hs : ∀ (i c d : Nat) (T : Addr) (σ : St) (H : Hp), x.cps.toList[i]? = some c → y.cps.toList[i]? = some d → Pv i σ H → H T = none → g (.ref T) σ (upd H T (.tup [.str ⟨#[c]⟩, .str ⟨#[d]⟩])) fun σ2 H2 => tb { D with nx := Pv (i + 1), ct := Pv (i + 1), bk := D.nx } σ2 H2)
    (hd : ∀ σ H, Pv (min x.cps.toList.length y.cps.toList.length) σ H → D.nx σ H) :
    ∃ W : Nat → Nat → St → Hp → Prop, (∃ m, W 0 m σ H) ∧ ∀ i m σ H, W i m σ H →
      ((Itzs x y).stop i H ∧ D.nx σ H) ∨ ((Itzs x y).go i H ∧ ∃ N : St → Hp → Prop, (∀ σ' H', N σ' H' → ∃ m', m' < m ∧ W (i + 1) m' σ' H') ∧ ∀ v H', (Itzs x y).yld i H v H' → g v σ H' fun σ2 H2 => tb { D with nx := N, ct := N, bk := D.nx } σ2 H2) := by
  have lx : x.cps.toList.length = x.cps.size := Array.length_toList
  have ly : y.cps.toList.length = y.cps.size := Array.length_toList
  refine ⟨fun i m σ H => m = min x.cps.size y.cps.size - i ∧ i ≤ min x.cps.size y.cps.size ∧ Pv i σ H, ⟨_, rfl, Nat.zero_le _, h0⟩, ?_⟩
  rintro i m σ H ⟨rfl, hi, p⟩
  by_cases hlt : i < min x.cps.size y.cps.size
  · refine .inr ⟨⟨by omega, by omega⟩, Pv (i + 1), fun σ' H' p' => ⟨min x.cps.size y.cps.size - (i + 1), by omega, rfl, hlt, p'⟩, fun v H' yl => ?_⟩
    obtain ⟨T, c, d, rfl, nT, hc, hd, rfl⟩ := yl
    exact hs i c d T σ H (by rw [Array.getElem?_toList]; exact hc) (by rw [Array.getElem?_toList]; exact hd) p nT
  · have e : i = min x.cps.size y.cps.size := by omega
    refine .inl ⟨⟨by omega, by omega, by omega⟩, hd σ H ?_⟩
    rw [lx, ly, ← e]
    exact p
end L2

namespace Lb
/-! ### lags -/
def lcp : List Nat → List Nat → Nat
  | a :: x, b :: y => if a = b then lcp x y + 1 else 0
  | _, _ => 0
def IsLag (a b u v : List Nat) : Prop := ∃ f, a = f ++ u ∧ b = f ++ v ∧ (u = [] ∨ v = [] ∨ u.head? ≠ v.head?)
theorem lcp_le : ∀ x y : List Nat, lcp x y ≤ x.length ∧ lcp x y ≤ y.length
  | [], _ => ⟨Nat.le_refl _, Nat.zero_le _⟩
  | _ :: _, [] => ⟨Nat.zero_le _, Nat.le_refl _⟩
  | a :: x, b :: y => by
    unfold lcp
    have ih := lcp_le x y
    by_cases h : a = b
    · rw [if_pos h, List.length_cons, List.length_cons]
      omega
    · rw [if_neg h]
      exact ⟨Nat.zero_le _, Nat.zero_le _⟩
theorem lcp_lag : ∀ x y : List Nat, IsLag x y (x.drop (lcp x y)) (y.drop (lcp x y))
  | [], y => ⟨[], rfl, rfl, .inl rfl⟩
  | a :: x, [] => ⟨[], rfl, rfl, .inr (.inl rfl)⟩
  | a :: x, b :: y => by
    unfold lcp
    by_cases h : a = b
    · subst h
      rw [if_pos rfl]
      obtain ⟨f, e1, e2, e3⟩ := lcp_lag x y
      exact ⟨a :: f, congrArg (a :: ·) e1, congrArg (a :: ·) e2, e3⟩
    · rw [if_neg h]
      exact ⟨[], rfl, rfl, .inr (.inr fun e => h (Option.some.inj e))⟩
theorem IsLag.uniq {a b u v u' v' : List Nat} (h : IsLag a b u v) (k : IsLag a b u' v') : u = u' ∧ v = v' := by
  obtain ⟨f, e1, e2, e3⟩ := h
  obtain ⟨g, d1, d2, d3⟩ := k
  subst e1
  subst e2
  induction f generalizing g with
  | nil =>
    cases g with
    | nil => exact ⟨d1, d2⟩
    | cons c g =>
      have d1' : u = c :: (g ++ u') := d1
      have d2' : v = c :: (g ++ v') := d2
      subst d1'
      subst d2'
      rcases e3 with e | e | e
      · cases e
      · cases e
      · exact absurd rfl e
  | cons c f ih =>
    cases g with
    | nil =>
      have d1' : c :: (f ++ u) = u' := d1
      have d2' : c :: (f ++ v) = v' := d2
      subst d1'
      subst d2'
      rcases d3 with e | e | e
      · cases e
      · cases e
      · exact absurd rfl e
    | cons d g =>
      have x1 : c :: (f ++ u) = d :: (g ++ u') := d1
      have x2 : c :: (f ++ v) = d :: (g ++ v') := d2
      exact ih g (List.cons.inj x1).2 (List.cons.inj x2).2
theorem IsLag.swap {a b u v : List Nat} (h : IsLag a b u v) : IsLag b a v u := by
  obtain ⟨f, e1, e2, e3⟩ := h
  refine ⟨f, e2, e1, ?_⟩
  rcases e3 with e | e | e
  · exact .inr (.inl e)
  · exact .inl e
  · exact .inr (.inr fun z => e z.symm)
/-- moved on -/
theorem IsLag.more {a b u v x y u' v' : List Nat} (h : IsLag a b u v) (k : IsLag (u ++ x) (v ++ y) u' v') : IsLag (a ++ x) (b ++ y) u' v' := by
  obtain ⟨f, e1, e2, e3⟩ := h
  obtain ⟨g, d1, d2, d3⟩ := k
  refine ⟨f ++ g, ?_, ?_, d3⟩
  · rw [e1, List.append_assoc, d1, List.append_assoc]
  · rw [e2, List.append_assoc, d2, List.append_assoc]
theorem IsLag.front {a b u v : List Nat} (c : List Nat) (h : IsLag a b u v) : IsLag (c ++ a) (c ++ b) u v := by
  obtain ⟨f, e1, e2, e3⟩ := h
  exact ⟨c ++ f, by rw [e1, List.append_assoc], by rw [e2, List.append_assoc], e3⟩
theorem IsLag.idem {a b u v : List Nat} (h : IsLag a b u v) : IsLag u v u v := by
  obtain ⟨f, e1, e2, e3⟩ := h
  exact ⟨[], rfl, rfl, e3⟩
theorem IsLag.le {a b u v : List Nat} (h : IsLag a b u v) : u.length ≤ a.length ∧ v.length ≤ b.length := by
  obtain ⟨f, e1, e2, e3⟩ := h
  rw [e1, e2, List.length_append, List.length_append]
  omega
theorem lcp_step {x y : List Nat} {i : Nat} {c d : Nat} (h : x.take i = y.take i) (hc : x[i]? = some c) (hd : y[i]? = some d) : (c = d → x.take (i + 1) = y.take (i + 1)) ∧ (c ≠ d → lcp x y = i) := by
  refine ⟨fun e => ?_, fun n => ?_⟩
  · subst e
    rw [List.take_add_one, List.take_add_one, h, hc, hd]
  · induction i generalizing x y with
    | zero =>
      cases x with
      | nil => cases hc
      | cons a x =>
        cases y with
        | nil => cases hd
        | cons b y =>
          have e1 : a = c := Option.some.inj hc
          have e2 : b = d := Option.some.inj hd
          unfold lcp
          rw [e1, e2, if_neg n]
    | succ i ih =>
      cases x with
      | nil => cases hc
      | cons a x =>
        cases y with
        | nil => cases hd
        | cons b y =>
          have e : a :: x.take i = b :: y.take i := h
          unfold lcp
          rw [if_pos (List.cons.inj e).1, ih (List.cons.inj e).2 hc hd]
theorem lcp_all {x y : List Nat} (h : x.take (min x.length y.length) = y.take (min x.length y.length)) : lcp x y = min x.length y.length := by
  induction x generalizing y with
  | nil =>
    show 0 = _
    rw [List.length_nil, Nat.zero_min]
  | cons a x ih =>
    cases y with
    | nil => rfl
    | cons b y =>
      rw [List.length_cons, List.length_cons, Nat.succ_min_succ] at *
      have e : a :: x.take (min x.length y.length) = b :: y.take (min x.length y.length) := h
      unfold lcp
      rw [if_pos (List.cons.inj e).1, ih (List.cons.inj e).2]
end Lb

namespace Lb
open PySem PySem.Spec PyProof.Rows L2
/-! ### the store that the draws come from -/
/-- the draws' store at a, its cells at c -/
def Sto (H : Hp) (a c : Addr) : Prop := ∃ (ns : List Int) (i b t s : Int), H a = some (.lst [.ref c, .int i, .int b, .int t, .int s]) ∧ H c = some (.lst (ns.map V.int)) ∧ 0 ≤ i ∧ c ≠ a
theorem Sto.to {H H' : Hp} {a c : Addr} (h : Sto H a c) (e1 : H' a = H a) (e2 : H' c = H c) : Sto H' a c := by
  obtain ⟨ns, i, b, t, s, h1, h2, h3, h4⟩ := h
  exact ⟨ns, i, b, t, s, e1.trans h1, e2.trans h2, h3, h4⟩
theorem Sto.same [Tabl] {H H' : Hp} {a c : Addr} (h : Sto H a c) (e : Same H H') : Sto H' a c := by
  obtain ⟨ns, i, b, t, s, h1, h2, h3, h4⟩ := h
  exact ⟨ns, i, b, t, s, e _ _ h1, e _ _ h2, h3, h4⟩
theorem Sto.new {H : Hp} {a c p : Addr} {o : HO} (h : Sto H a c) (e : H p = none) : Sto (upd H p o) a c := by
  obtain ⟨ns, i, b, t, s, h1, h2, h3, h4⟩ := h
  exact ⟨ns, i, b, t, s, by rw [upd_ne (ne_of_none h1 e)]; exact h1, by rw [upd_ne (ne_of_none h2 e)]; exact h2, h3, h4⟩
theorem Sto.ne {H : Hp} {a c p : Addr} (h : Sto H a c) (e : H p = none) : p ≠ a ∧ p ≠ c := by
  obtain ⟨ns, i, b, t, s, h1, h2, h3, h4⟩ := h
  exact ⟨fun z => (by rw [z, h1] at e; cases e), fun z => (by rw [z, h2] at e; cases e)⟩
theorem Sto.put {H : Hp} {a c p : Addr} {o : HO} (h : Sto H a c) (n : p ≠ a ∧ p ≠ c) : Sto (upd H p o) a c :=
  h.to (upd_ne (Ne.symm n.1)) (upd_ne (Ne.symm n.2))
theorem ints_at {ns : List Int} {i : Int} (h0 : 0 ≤ i) (h1 : i < ((ns.map V.int).length : Nat)) : ∃ n, atI (ns.map V.int) i = some (.int n) := by
  obtain ⟨j, rfl⟩ := Int.eq_ofNat_of_zero_le h0
  have hj : j < ns.length := by
    rw [List.length_map] at h1
    exact Int.ofNat_lt.mp h1
  exact ⟨ns[j], atI_nat (by rw [List.getElem?_map, List.getElem?_eq_getElem hj]; rfl)⟩
theorem ne1 {P : Prop} [Decidable P] (h : P) : decide P = true := decide_eq_true h
theorem ne0 {P : Prop} [Decidable P] (h : ¬ P) : decide P = false := decide_eq_false h
theorem iteC {c : Bool} {A B : Prop} (h : c = true) (a : A) : if c = true then A else B := by
  rw [if_pos h]
  exact a
theorem iteN {c : Bool} {A B : Prop} (h : c = false) (b : B) : if c = true then A else B := by
  rw [h]
  exact iteF b
/-- a row that is not come to -/
theorem ps_dead {X : Cx} {s : Stmt} : PS X s (fun _ _ _ => False) := ⟨fun _ _ _ _ _ _ h => h.elim⟩
end Lb

namespace L2
open PySem PySem.Spec PyProof.Rows
theorem pip_of {X : Cx} {op : Operator} {r : TIp} (h : OpR X (inplaceOp op) r) : PIp X op r := fun pins s σ H x y v u Q I r1 r2 q => h pins s σ H x y v u Q I r1 r2 q
/-! min, max of a list of texts -/
def rMinS (K : PySem.W.Frag) : List V → Hp → VK → Prop := fun vs H Q => ∃ (a : Addr) (x : Str) (xs : List Str), vs = [V.ref a] ∧ SqL K H a ((x :: xs).map V.str) ∧ Q (.str (PySem.W.minOf x xs)) H
def rMaxS (K : PySem.W.Frag) : List V → Hp → VK → Prop := fun vs H Q => ∃ (a : Addr) (x : Str) (xs : List Str), vs = [V.ref a] ∧ SqL K H a ((x :: xs).map V.str) ∧ Q (.str (PySem.W.maxOf x xs)) H
theorem cr_minS {X : Cx} (hc : X.calm = true) (hu : X.A.units + 64 < cLine) : CallR X (.builtin "min") (rMinS X.K) := by
  intro pins s σ H vs us Q I r h
  obtain ⟨a, x, xs, rfl, hs, q⟩ := h
  obtain ⟨its, rv, hl, _⟩ := I.list hs
  rw [Vals.ref1 r]
  have hd : PySem.W.Datum.depth Str ≤ 1 := by decide
  exact PySem.W.min_list_datum (x := x) (xs := xs) (I.ok.hd hc) hl.isList (PySem.W.HoldAll.of_strs rv.strs) (by omega) fun i v h' tk hi hv hk =>
    ⟨.str (PySem.W.minOf x xs), H, I.kept hk, PySem.W.str_of_holds hv, q⟩
theorem cr_maxS {X : Cx} (hc : X.calm = true) (hu : X.A.units + 64 < cLine) : CallR X (.builtin "max") (rMaxS X.K) := by
  intro pins s σ H vs us Q I r h
  obtain ⟨a, x, xs, rfl, hs, q⟩ := h
  obtain ⟨its, rv, hl, _⟩ := I.list hs
  rw [Vals.ref1 r]
  have hd : PySem.W.Datum.depth Str ≤ 1 := by decide
  exact PySem.W.max_list_datum (x := x) (xs := xs) (I.ok.hd hc) hl.isList (PySem.W.HoldAll.of_strs rv.strs) (by omega) fun i v h' tk hi hv hk =>
    ⟨.str (PySem.W.maxOf x xs), H, I.kept hk, PySem.W.str_of_holds hv, q⟩
/-! rules that name the written part: for the inside of a comprehension -/
theorem ix_listK {X : Cx} (K : PySem.W.Frag) (h : X.K = K) : IxR X (rIxL K) := by
  subst h
  exact ix_list
theorem ix_tupK {X : Cx} (K : PySem.W.Frag) (h : X.K = K) : IxR X (rIxT K) := by
  subst h
  exact ix_tup
theorem op_in_seqK {X : Cx} (K : PySem.W.Frag) (h : X.K = K) : OpR X (compareOp .In) (rIn K false) := by
  subst h
  exact op_in_seq
theorem op_notIn_seqK {X : Cx} (K : PySem.W.Frag) (h : X.K = K) : OpR X (compareOp .NotIn) (rIn K true) := by
  subst h
  exact op_notIn_seq
theorem call_len_seqK {X : Cx} (K : PySem.W.Frag) (h : X.K = K) : CallR X (.builtin "len") (fun xs H Q => ∃ p ys, xs = [.ref p] ∧ (SqL K H p ys ∨ SqT K H p ys) ∧ Q (.int ys.length) H) := by
  subst h
  exact call_len_seq
end L2

namespace Lb
open PySem PySem.Spec PyProof.Rows L2
def inR : V → Int → Int → Bool
  | .int i, lo, hi => decide (lo ≤ i) && decide (i ≤ hi)
  | _, _, _ => false
/-- an error of the class at C with that value, at any later heap -/
def Raised [Tabl] (H : Hp) (C : Addr) (v : V) (E : XK) : Prop := ∀ (d : Addr) (H1 H' : Hp), Same H H1 → H1 d = none → H' = upd H1 d (.xd [("value", v)]) → E (.ref C) (some d) H'
theorem Raised.same [Tabl] {H H1 : Hp} {C : Addr} {v : V} {E : XK} (r : Raised H C v E) (s : Same H H1) : Raised H1 C v E := fun d H2 H' s2 n e => r d H2 H' (s.trans s2) n e
/-- v is an alphabet, v is a word over the alphabet L -/
def AlphaV (v : V) : Prop := ∃ z, v = .str z ∧ IsAlpha z
def WordV (L v : V) (m : Nat) : Prop := ∃ z x, L = .str z ∧ v = .str x ∧ IsAlpha z ∧ Over z x ∧ x.length ≤ m
def plainV : V → Bool
  | .non => true
  | .bl _ => true
  | .int _ => true
  | .str _ => true
  | _ => false
/-- equal plain values, or two tuples, two lists with items that rel relates -/
def SameR (rel : Hp → V → V → Prop) (H : Hp) (x y : V) : Prop := (x = y ∧ plainV y = true) ∨ ∃ (p q : Addr) (xs ys : List V), x = .ref p ∧ y = .ref q ∧
  ((H p = some (.tup xs) ∧ H q = some (.tup ys)) ∨ (H p = some (.lst xs) ∧ H q = some (.lst ys))) ∧ xs.length = ys.length ∧ ys.length ≤ 1000000 ∧ ∀ (i : Nat) (x' y' : V), xs[i]? = some x' → ys[i]? = some y' → rel H x' y'
def SameD : Nat → Hp → V → V → Prop
  | 0 => SameR fun _ _ _ => False
  | n + 1 => SameR (SameD n)
/-- a plain value of at most n levels, apart from the store at a -/
def DeepR (a : Addr) (rel : Hp → V → Prop) (H : Hp) (v : V) : Prop := (plainV v = true ∧ (∀ x : Str, v = .str x → x.length ≤ 1000000) ∧ ∀ i : Int, v = .int i → i.natAbs < 2 ^ 13000) ∨
  ∃ (p : Addr) (xs : List V), v = .ref p ∧ p ≠ a ∧ (H p = some (.lst xs) ∨ H p = some (.tup xs)) ∧ xs.length ≤ 1000000 ∧ ∀ x ∈ xs, rel H x
def Deep (a : Addr) : Nat → Hp → V → Prop
  | 0 => DeepR a fun _ _ => False
  | n + 1 => DeepR a (Deep a n)
theorem Deep.but [Tabl] {a : Addr} {H H' : Hp} (k : But a H H') : ∀ {n : Nat} {v : V}, Deep a n H v → Deep a n H' v
  | 0, v, h => h.elim .inl fun ⟨p, xs, e, ne, o, l, r⟩ => .inr ⟨p, xs, e, ne, o.elim (fun q => .inl (k _ _ ne q)) (fun q => .inr (k _ _ ne q)), l, r⟩
  | n + 1, v, h => h.elim .inl fun ⟨p, xs, e, ne, o, l, r⟩ => .inr ⟨p, xs, e, ne, o.elim (fun q => .inl (k _ _ ne q)) (fun q => .inr (k _ _ ne q)), l, fun x m => Deep.but k (r x m)⟩
theorem Deep.same [Tabl] {a : Addr} {H H' : Hp} {n : Nat} {v : V} (h : Deep a n H v) (s : Same H H') : Deep a n H' v := h.but (But.same s)
theorem Deep.up {a : Addr} {H : Hp} : ∀ {n : Nat} {v : V}, Deep a n H v → Deep a (n + 1) H v
  | 0, v, h => h.elim .inl fun ⟨p, xs, e, ne, o, l, r⟩ => .inr ⟨p, xs, e, ne, o, l, fun x m => (r x m).elim⟩
  | n + 1, v, h => h.elim .inl fun ⟨p, xs, e, ne, o, l, r⟩ => .inr ⟨p, xs, e, ne, o, l, fun x m => Deep.up (r x m)⟩
theorem Deep.le {a : Addr} {H : Hp} {n m : Nat} {v : V} (h : Deep a n H v) (l : n ≤ m) : Deep a m H v := by
  induction l with
  | refl => exact h
  | step _ ih => exact ih.up
theorem Deep.shal {a : Addr} {H : Hp} {n : Nat} {v : V} (h : Deep a n H v) : Shal H v := by
  have key : ∀ rel, DeepR a rel H v → Shal H v := by
    rintro rel (⟨pl, tx, _⟩ | ⟨p, xs, e, _, o, _⟩)
    · cases v with
      | non => exact .inr (.inl rfl)
      | bl b => exact .inr (.inr (.inl ⟨b, rfl⟩))
      | int i => exact .inr (.inr (.inr (.inl ⟨i, rfl⟩)))
      | str x => exact .inl ⟨x, rfl, tx x rfl⟩
      | _ => cases pl
    · exact .inr (.inr (.inr (.inr ⟨p, xs, e, o⟩)))
  cases n with
  | zero => exact key _ h
  | succ n => exact key _ h
theorem deep_atom {a : Addr} {H : Hp} {n : Nat} {v : V} (pl : plainV v = true) (tx : ∀ x : Str, v = .str x → x.length ≤ 1000000) (it : ∀ i : Int, v = .int i → i.natAbs < 2 ^ 13000) : Deep a n H v := by
  cases n <;> exact .inl ⟨pl, tx, it⟩
theorem deep_str {a : Addr} {H : Hp} {n : Nat} {x : Str} (l : x.length ≤ 1000000) : Deep a n H (.str x) := deep_atom rfl (fun y e => by cases e; exact l) (fun i e => by cases e)
theorem deep_int {a : Addr} {H : Hp} {n : Nat} {i : Int} (l : i.natAbs < 2 ^ 13000) : Deep a n H (.int i) := deep_atom rfl (fun y e => by cases e) (fun j e => by cases e; exact l)
theorem deep_non {a : Addr} {H : Hp} {n : Nat} : Deep a n H .non := deep_atom rfl (fun y e => by cases e) (fun i e => by cases e)
theorem deep_bl {a : Addr} {H : Hp} {n : Nat} {b : Bool} : Deep a n H (.bl b) := deep_atom rfl (fun y e => by cases e) (fun i e => by cases e)
theorem deep_lst {a p : Addr} {H : Hp} {n : Nat} {xs : List V} (ne : p ≠ a) (e : H p = some (.lst xs)) (l : xs.length ≤ 1000000) (r : ∀ x ∈ xs, Deep a n H x) : Deep a (n + 1) H (.ref p) := .inr ⟨p, xs, rfl, ne, .inl e, l, r⟩
theorem deep_tup {a p : Addr} {H : Hp} {n : Nat} {xs : List V} (ne : p ≠ a) (e : H p = some (.tup xs)) (l : xs.length ≤ 1000000) (r : ∀ x ∈ xs, Deep a n H x) : Deep a (n + 1) H (.ref p) := .inr ⟨p, xs, rfl, ne, .inr e, l, r⟩
theorem Deep.samed {a : Addr} {H : Hp} : ∀ {n : Nat} {v : V}, Deep a n H v → SameD n H v v
  | 0, v, h => h.elim (fun q => .inl ⟨rfl, q.1⟩) fun ⟨p, xs, e, ne, o, l, r⟩ => .inr ⟨p, p, xs, xs, e, e, o.elim (fun q => .inr ⟨q, q⟩) (fun q => .inl ⟨q, q⟩), rfl, l, fun i x y ex ey => (r x (List.mem_of_getElem? ex)).elim⟩
  | n + 1, v, h => h.elim (fun q => .inl ⟨rfl, q.1⟩) fun ⟨p, xs, e, ne, o, l, r⟩ => .inr ⟨p, p, xs, xs, e, e, o.elim (fun q => .inr ⟨q, q⟩) (fun q => .inl ⟨q, q⟩), rfl, l, fun i x y ex ey => by
      rw [ex] at ey
      cases ey
      exact Deep.samed (r x (List.mem_of_getElem? ex))⟩
theorem SameD.keep [Tabl] {H H' : Hp} (s : Same H H') : ∀ {n : Nat} {x y : V}, SameD n H x y → SameD n H' x y
  | 0, x, y, h => h.elim .inl fun ⟨p, q, xs, ys, e1, e2, o, l, m, r⟩ => .inr ⟨p, q, xs, ys, e1, e2, o.elim (fun z => .inl ⟨s _ _ z.1, s _ _ z.2⟩) (fun z => .inr ⟨s _ _ z.1, s _ _ z.2⟩), l, m, fun i a b ea eb => (r i a b ea eb).elim⟩
  | n + 1, x, y, h => h.elim .inl fun ⟨p, q, xs, ys, e1, e2, o, l, m, r⟩ => .inr ⟨p, q, xs, ys, e1, e2, o.elim (fun z => .inl ⟨s _ _ z.1, s _ _ z.2⟩) (fun z => .inr ⟨s _ _ z.1, s _ _ z.2⟩), l, m, fun i a b ea eb => SameD.keep s (r i a b ea eb)⟩
theorem nodup_len : ∀ (l D : List Nat), l.Nodup → (∀ x ∈ l, x ∈ D) → l.length ≤ D.length
  | [], _, _, _ => Nat.zero_le _
  | x :: l, D, nd, h => by
    obtain ⟨h1, h2⟩ := List.nodup_cons.mp nd
    have ih := nodup_len l (D.erase x) h2 fun y hy => (List.mem_erase_of_ne (fun e : y = x => h1 (by rw [← e]; exact hy))).mpr (h y (List.mem_cons_of_mem _ hy))
    have m := h x (List.mem_cons_self ..)
    rw [List.length_erase_of_mem m] at ih
    have := List.length_pos_of_mem m
    rw [List.length_cons]
    omega
/-- one-sign texts joined -/
theorem signs_len {ys : List Str} (h : ∀ y ∈ ys, ∃ c, y = (⟨#[c]⟩ : Str)) : (ys.map (·.length)).sum = ys.length := by
  induction ys with
  | nil => rfl
  | cons y r ih =>
    obtain ⟨c, rfl⟩ := h y List.mem_cons_self
    rw [List.map_cons, List.sum_cons, ih fun x m => h x (List.mem_cons_of_mem _ m), List.length_cons]
    show 1 + r.length = r.length + 1
    omega
theorem join0_len (ys : List Str) : (Txt.join (Str.ofString "") ys).length = (ys.map (·.length)).sum := by
  rw [← cs_len, cs_join0, List.length_flatten, List.map_map]
  congr 1
theorem up3 (c : Nat) : (Txt.upper ⟨#[c]⟩).length ≤ 3 := by
  have h := PyProof.Rows.len_upper (⟨#[c]⟩ : Str)
  have e : (⟨#[c]⟩ : Str).length = 1 := rfl
  omega
theorem Deep.avoid {a D : Addr} {H : Hp} (nd : H D = none) : ∀ {n : Nat} {v : V}, Deep a n H v → Deep D n H v
  | 0, v, h => h.elim .inl fun ⟨p, xs, e, _, o, l, r⟩ => .inr ⟨p, xs, e, fun z => by subst z; rcases o with o | o <;> (rw [nd] at o; cases o), o, l, r⟩
  | n + 1, v, h => h.elim .inl fun ⟨p, xs, e, _, o, l, r⟩ => .inr ⟨p, xs, e, fun z => by subst z; rcases o with o | o <;> (rw [nd] at o; cases o), o, l, fun x m => Deep.avoid nd (r x m)⟩
theorem same_row {H : Hp} {p : Addr} {xs ys : List V} (h : H p = some (.lst xs) ∨ H p = some (.tup xs)) (k : H p = some (.lst ys) ∨ H p = some (.tup ys)) : xs = ys := by
  rcases h with h | h <;> rcases k with k | k <;> (rw [h] at k; cases k) <;> rfl
theorem Deep.put [Tabl] {b D : Addr} {H H' : Hp} (k : But D H H') : ∀ {n : Nat} {v : V}, Deep b n H v → Deep D n H v → Deep b n H' v
  | 0, v, h, g => h.elim .inl fun ⟨p, xs, e, ne, o, l, r⟩ => g.elim .inl fun ⟨q, ys, e2, nd, _⟩ => by
      subst e
      cases e2
      exact .inr ⟨p, xs, rfl, ne, o.elim (fun z => .inl (k _ _ nd z)) (fun z => .inr (k _ _ nd z)), l, r⟩
  | n + 1, v, h, g => h.elim .inl fun ⟨p, xs, e, ne, o, l, r⟩ => g.elim .inl fun ⟨q, ys, e2, nd, o2, _, r2⟩ => by
      subst e
      cases e2
      have := same_row o o2
      subst this
      exact .inr ⟨p, xs, rfl, ne, o.elim (fun z => .inl (k _ _ nd z)) (fun z => .inr (k _ _ nd z)), l, fun x m => Deep.put k (r x m) (r2 x m)⟩
theorem deep_ref {D p : Addr} {H : Hp} {n : Nat} {xs : List V} (g : Deep D n H (.ref p)) (o : H p = some (.lst xs) ∨ H p = some (.tup xs)) : p ≠ D ∧ ∀ m, n = m + 1 → ∀ x ∈ xs, Deep D m H x := by
  cases n with
  | zero =>
    rcases g with ⟨pl, _⟩ | ⟨q, ys, e, ne, _⟩
    · cases pl
    · cases e
      exact ⟨ne, fun m e => by cases e⟩
  | succ n =>
    rcases g with ⟨pl, _⟩ | ⟨q, ys, e, ne, o2, _, r⟩
    · cases pl
    · cases e
      have := same_row o o2
      subst this
      exact ⟨ne, fun m e => by cases e; exact r⟩
theorem SameD.put [Tabl] {D : Addr} {H H' : Hp} (k : But D H H') : ∀ {n : Nat} {x y : V}, SameD n H x y → Deep D n H x → Deep D n H y → SameD n H' x y
  | 0, x, y, h, gx, gy => h.elim .inl fun ⟨p, q, xs, ys, e1, e2, o, l, m, r⟩ => by
      subst e1
      subst e2
      have d1 := (deep_ref gx (o.elim (fun z => .inr z.1) fun z => .inl z.1)).1
      have d2 := (deep_ref gy (o.elim (fun z => .inr z.2) fun z => .inl z.2)).1
      exact .inr ⟨p, q, xs, ys, rfl, rfl, o.elim (fun z => .inl ⟨k _ _ d1 z.1, k _ _ d2 z.2⟩) (fun z => .inr ⟨k _ _ d1 z.1, k _ _ d2 z.2⟩), l, m, fun i a b ea eb => (r i a b ea eb).elim⟩
  | n + 1, x, y, h, gx, gy => h.elim .inl fun ⟨p, q, xs, ys, e1, e2, o, l, m, r⟩ => by
      subst e1
      subst e2
      have d1 := deep_ref gx (o.elim (fun z => .inr z.1) fun z => .inl z.1)
      have d2 := deep_ref gy (o.elim (fun z => .inr z.2) fun z => .inl z.2)
      exact .inr ⟨p, q, xs, ys, rfl, rfl, o.elim (fun z => .inl ⟨k _ _ d1.1 z.1, k _ _ d2.1 z.2⟩) (fun z => .inr ⟨k _ _ d1.1 z.1, k _ _ d2.1 z.2⟩), l, m, fun i a b ea eb => SameD.put k (r i a b ea eb) (d1.2 n rfl a (List.mem_of_getElem? ea)) (d2.2 n rfl b (List.mem_of_getElem? eb))⟩
theorem Same.some [Tabl] {H H' : Hp} (s : Same H H') {b : Addr} (h : H b ≠ none) : H' b ≠ none := fun e => h (s.free e)
/-- x == s, x any plain value, s a text -/
def rEqStr : R2 := fun x y H Q => ∃ z : Str, y = .str z ∧ Shal H x ∧ Q (.bl (decide (x = .str z))) H
theorem op_eqStr {X : Cx} (hu : X.A.units < cLine) : OpR X (compareOp .Eq) rEqStr := by
  intro pins s σ H x y v u Q I rx ry h
  obtain ⟨z, rfl, sx, q⟩ := h
  have flat : scal x (.str z) = true → wpAny (model X.prog X.w) X.A (compareOp .Eq v u) (EP X pins σ Q) X.xe s := fun sc => op_eq pins s σ H x (.str z) v u Q I rx ry ⟨sc, q⟩
  rcases sx with ⟨y, rfl, _⟩ | rfl | ⟨b, rfl⟩ | ⟨i, rfl⟩ | ⟨p, xs, rfl, h | h⟩
  · exact flat rfl
  · exact flat rfl
  · exact flat rfl
  · exact flat rfl
  · rw [decide_eq_false (fun e => by cases e)] at q
    obtain ⟨its, rv, hl, _⟩ := I.list (show SqL X.K H p xs from .inl (.inl h))
    obtain ⟨t', rfl⟩ := ry
    cases rx
    exact SeqAt.RcAt.list_str z t' hl.isList hu X.prog X.w _ _ ⟨.bl false, H, I, rfl, q⟩
  · rw [decide_eq_false (fun e => by cases e)] at q
    obtain ⟨its, rv, hl, _⟩ := I.tuple (show SqT X.K H p xs from .inl (.inl h))
    obtain ⟨t', rfl⟩ := ry
    cases rx
    exact SeqAt.RcAt.tuple_str z t' hl hu X.prog X.w _ _ ⟨.bl false, H, I, rfl, q⟩
def NameS (x : Str) : Prop := 1 ≤ x.length ∧ x.length ≤ 12 ∧ (∀ c, (cs x)[0]? = some c → c ∈ cs abc) ∧ ∀ c ∈ cs x, c ∈ cs abc ∨ c ∈ cs (Str.ofString "0123456789")
def NameV (v : V) : Prop := ∃ x, v = .str x ∧ NameS x
/-! like values, yes or no -/
def DeepE (dp : Hp → V → Prop) (H : Hp) (v : V) : Prop := (plainV v = true ∧ ∀ x : Str, v = .str x → x.length ≤ 1000000) ∨ ∃ (p : Addr) (xs : List V), v = .ref p ∧ (H p = some (.lst xs) ∨ H p = some (.tup xs)) ∧ xs.length ≤ 1000000 ∧ ∀ x ∈ xs, dp H x
def DeepN : Nat → Hp → V → Prop
  | 0 => DeepE fun _ _ => False
  | n + 1 => DeepE (DeepN n)
theorem Deep.toN {a : Addr} {H : Hp} : ∀ {n : Nat} {v : V}, Deep a n H v → DeepN n H v
  | 0, v, h => h.elim (fun q => .inl ⟨q.1, q.2.1⟩) fun ⟨p, xs, e, _, o, l, r⟩ => .inr ⟨p, xs, e, o, l, r⟩
  | n + 1, v, h => h.elim (fun q => .inl ⟨q.1, q.2.1⟩) fun ⟨p, xs, e, _, o, l, r⟩ => .inr ⟨p, xs, e, o, l, fun x m => Deep.toN (r x m)⟩
theorem DeepE.shal {dp : Hp → V → Prop} {H : Hp} {v : V} (h : DeepE dp H v) : Shal H v := by
  rcases h with ⟨pl, tx⟩ | ⟨p, xs, e, o, _⟩
  · cases v with
    | non => exact .inr (.inl rfl)
    | bl b => exact .inr (.inr (.inl ⟨b, rfl⟩))
    | int i => exact .inr (.inr (.inr (.inl ⟨i, rfl⟩)))
    | str x => exact .inl ⟨x, rfl, tx x rfl⟩
    | _ => cases pl
  · exact .inr (.inr (.inr (.inr ⟨p, xs, e, o⟩)))
/-- isinstance(v, tuple), isinstance(v, list) -/
theorem isi_tup {K : PySem.W.Frag} {H : Hp} {v : V} (h : Shal H v) : ∃ (t : Value) (b : Bool), TyX K H v t ∧ PySem.W.kitOne K t (.type "tuple") = some b ∧ (b = true ↔ ∃ p xs, v = .ref p ∧ H p = some (.tup xs)) := by
  rcases h with ⟨x, rfl, _⟩ | rfl | ⟨b, rfl⟩ | ⟨i, rfl⟩ | ⟨p, xs, rfl, h | h⟩
  · exact ⟨_, false, .base (.str x), kit_ty (by decide +kernel), ⟨fun e => (by cases e), fun ⟨p, xs, e, _⟩ => (by cases e)⟩⟩
  · exact ⟨_, false, .base .non, kit_ty (by decide +kernel), ⟨fun e => (by cases e), fun ⟨p, xs, e, _⟩ => (by cases e)⟩⟩
  · exact ⟨_, false, .base (.bl b), kit_ty (by decide +kernel), ⟨fun e => (by cases e), fun ⟨p, xs, e, _⟩ => (by cases e)⟩⟩
  · exact ⟨_, false, .base (.int i), kit_ty (by decide +kernel), ⟨fun e => (by cases e), fun ⟨p, xs, e, _⟩ => (by cases e)⟩⟩
  · exact ⟨_, false, .base (.lst h), kit_ty (by decide +kernel), ⟨fun e => (by cases e), fun ⟨p, xs, e, k⟩ => (by cases e; rw [h] at k; cases k)⟩⟩
  · exact ⟨_, true, .base (.tup h), kit_ty (by decide +kernel), ⟨fun _ => ⟨p, xs, rfl, h⟩, fun _ => rfl⟩⟩
theorem isi_lst {K : PySem.W.Frag} {H : Hp} {v : V} (h : Shal H v) : ∃ (t : Value) (b : Bool), TyX K H v t ∧ PySem.W.kitOne K t (.type "list") = some b ∧ (b = true ↔ ∃ p xs, v = .ref p ∧ H p = some (.lst xs)) := by
  rcases h with ⟨x, rfl, _⟩ | rfl | ⟨b, rfl⟩ | ⟨i, rfl⟩ | ⟨p, xs, rfl, h | h⟩
  · exact ⟨_, false, .base (.str x), kit_ty (by decide +kernel), ⟨fun e => (by cases e), fun ⟨p, xs, e, _⟩ => (by cases e)⟩⟩
  · exact ⟨_, false, .base .non, kit_ty (by decide +kernel), ⟨fun e => (by cases e), fun ⟨p, xs, e, _⟩ => (by cases e)⟩⟩
  · exact ⟨_, false, .base (.bl b), kit_ty (by decide +kernel), ⟨fun e => (by cases e), fun ⟨p, xs, e, _⟩ => (by cases e)⟩⟩
  · exact ⟨_, false, .base (.int i), kit_ty (by decide +kernel), ⟨fun e => (by cases e), fun ⟨p, xs, e, _⟩ => (by cases e)⟩⟩
  · exact ⟨_, true, .base (.lst h), kit_ty (by decide +kernel), ⟨fun _ => ⟨p, xs, rfl, h⟩, fun _ => rfl⟩⟩
  · exact ⟨_, false, .base (.tup h), kit_ty (by decide +kernel), ⟨fun e => (by cases e), fun ⟨p, xs, e, k⟩ => (by cases e; rw [h] at k; cases k)⟩⟩
/-- an atom is like itself alone -/
theorem same_atom {rel : Hp → V → V → Prop} {H : Hp} {x y : V} (h : plainV y = true) : SameR rel H x y ↔ x = y := by
  constructor
  · rintro (⟨e, _⟩ | ⟨p, q, xs, ys, e1, e2, _⟩)
    · exact e
    · rw [e2] at h
      cases h
  · exact fun e => .inl ⟨e, h⟩
/-! what an expression does first, told apart from what is done with its value -/
theorem next_to {D : Ends} {σ : L2.St} {H : Hp} (h : D.nx σ H) : tNext D σ H := h
theorem lift_if {tl : TE} {ta : TA} {sp : Sp} {S tr : TS} {D : Ends} {σ : L2.St} {H : Hp} (Pv : V → Hp → Prop) (h : ∀ Qx : VK, (∀ x H3, Pv x H3 → Qx x H3) → tl σ H Qx)
    (hk : ∀ x H3, Pv x H3 → tSeq (tIfS (tNot (tB (tCall sp [] E0 (tCons (tC x) ta)))) tr tNext) S D σ H3) : tSeq (tIfS (tNot (tB (tCall sp [] E0 (tCons tl ta)))) tr tNext) S D σ H := h _ hk
theorem lift_asg {tl : TE} {S : TS} {tg : TG} {D : Ends} {σ : L2.St} {H : Hp} (Pv : V → Hp → Prop) (h : ∀ Qx : VK, (∀ x H3, Pv x H3 → Qx x H3) → tl σ H Qx)
    (hk : ∀ x H3, Pv x H3 → tSeq (tAsg (tC x) tg) S D σ H3) : tSeq (tAsg tl tg) S D σ H := h _ hk
theorem lift_ret {tl : TE} {ta : TA} {sp : Sp} {D : Ends} {σ : L2.St} {H : Hp} (Pv : V → Hp → Prop) (h : ∀ Qx : VK, (∀ x H3, Pv x H3 → Qx x H3) → tl σ H Qx)
    (hk : ∀ x H3, Pv x H3 → tRet (tCall sp [] E0 (tCons (tC x) ta)) D σ H3) : tRet (tCall sp [] E0 (tCons tl ta)) D σ H := h _ hk
theorem lift_if2 {tl tl2 : TE} {sp : Sp} {S tr : TS} {D : Ends} {σ : L2.St} {H : Hp} (Pv : V → V → Hp → Prop) (h : ∀ Qx : V → VK, (∀ x y H3, Pv x y H3 → Qx x y H3) → tl σ H fun x H1 => tl2 σ H1 fun y H2 => Qx x y H2)
    (hk : ∀ x y H3, Pv x y H3 → tSeq (tIfS (tNot (tB (tCall sp [] E0 (tCons (tC x) (tCons (tC y) tNil))))) tr tNext) S D σ H3) : tSeq (tIfS (tNot (tB (tCall sp [] E0 (tCons tl (tCons tl2 tNil))))) tr tNext) S D σ H := h _ hk
/-! two for in a comprehension -/
theorem lc2_in {J1 : It} {n1 : Nat} {G1 : Hp → Prop} {Y1 : Nat → Hp → V → Hp → Prop} (w : Walk J1 n1 G1 Y1) {g1 : TG} {tt1 : TT} {te : TE} {vs1 : List Nat} {σ2 : L2.St} {H4 : Hp} {D : Addr} {Nx : Hp → Prop} (Pv : Nat → Hp → Prop) (h0 : Pv 0 H4) (hG : ∀ i H, i ≤ n1 → Pv i H → G1 H)
    (hs : ∀ j x H H', j < n1 → Pv j H → Y1 j H x H' → g1 x (wipe σ2 vs1) H' fun σ3 H5 => wipe σ3 vs1 = wipe σ2 vs1 ∧ tt1 σ3 H5 fun b H6 =>
      if b = true then te σ3 H6 fun y H7 => ∃ acc, H7 D = some (.lst acc) ∧ acc.length < sizeLine ∧ Pv (j + 1) (upd H7 D (.lst (acc ++ [y]))) else Pv (j + 1) H6) (hd : ∀ H, Pv n1 H → Nx H) :
    ∃ W1 : Nat → Nat → Hp → Prop, (∃ m, W1 0 m H4) ∧ ∀ j k H, W1 j k H →
      (J1.stop j H ∧ Nx H) ∨ (J1.go j H ∧ ∃ Nx1 : Hp → Prop, (∀ H', Nx1 H' → ∃ k', k' < k ∧ W1 (j + 1) k' H') ∧ ∀ x H', J1.yld j H x H' → g1 x (wipe σ2 vs1) H' fun σ3 H5 => wipe σ3 vs1 = wipe σ2 vs1 ∧ tt1 σ3 H5 fun b H6 =>
        if b = true then te σ3 H6 fun y H7 => ∃ acc, H7 D = some (.lst acc) ∧ acc.length < sizeLine ∧ Nx1 (upd H7 D (.lst (acc ++ [y]))) else Nx1 H6) := by
  refine ⟨fun i m H => m = n1 - i ∧ i ≤ n1 ∧ Pv i H, ⟨n1, by simp, Nat.zero_le _, h0⟩, ?_⟩
  rintro i m H ⟨rfl, hi, q⟩
  have gg := hG i H hi q
  by_cases hlt : i < n1
  · refine .inr ⟨w.goes i H hlt gg, Pv (i + 1), fun H' p' => ⟨n1 - (i + 1), by omega, rfl, hlt, p'⟩, fun x H' y => hs i x H H' hlt q (w.yields i H x H' hlt gg y)⟩
  · have e : i = n1 := by omega
    subst e
    exact .inl ⟨w.stops H gg, hd H q⟩
theorem lc2_out {J : It} {n : Nat} {G : Hp → Prop} {Y : Nat → Hp → V → Hp → Prop} (w : Walk J n G Y) {H1 : Hp} {Qd : Hp → Prop} {Step : (Hp → Prop) → V → Hp → Prop} {D : Addr} (Pv : Nat → Hp → Prop) (h0 : Pv 0 (upd H1 D (.lst []))) (hG : ∀ i H, i ≤ n → Pv i H → G H)
    (hs : ∀ i x H H', i < n → Pv i H → Y i H x H' → Step (Pv (i + 1)) x H') (hd : ∀ H, Pv n H → Qd H) :
    ∃ W : Nat → Nat → Hp → Prop, (∃ m, W 0 m (upd H1 D (.lst []))) ∧ ∀ i m H, W i m H →
      (J.stop i H ∧ Qd H) ∨ (J.go i H ∧ ∃ Nx : Hp → Prop, (∀ H', Nx H' → ∃ m', m' < m ∧ W (i + 1) m' H') ∧ ∀ x H', J.yld i H x H' → Step Nx x H') := by
  refine ⟨fun i m H => m = n - i ∧ i ≤ n ∧ Pv i H, ⟨n, by simp, Nat.zero_le _, h0⟩, ?_⟩
  rintro i m H ⟨rfl, hi, q⟩
  have gg := hG i H hi q
  by_cases hlt : i < n
  · refine .inr ⟨w.goes i H hlt gg, Pv (i + 1), fun H' p' => ⟨n - (i + 1), by omega, rfl, hlt, p'⟩, fun x H' y => hs i x H H' hlt q (w.yields i H x H' hlt gg y)⟩
  · have e : i = n := by omega
    subst e
    exact .inl ⟨w.stops H gg, hd H q⟩
theorem cutV_upto (xs : List V) (k : Nat) : cutV xs none (some (k : Int)) = xs.take k := by
  show (xs.drop (HT.sIx xs.length 0 none)).take (HT.sIx xs.length xs.length (some (k : Int)) - HT.sIx xs.length 0 none) = _
  rw [HT.sIx_none, HT.sIx_nat, List.drop_zero, Nat.sub_zero]
  by_cases h : k ≤ xs.length
  · rw [Nat.min_eq_left h]
  · rw [Nat.min_eq_right (by omega), List.take_of_length_le (Nat.le_refl _), List.take_of_length_le (by omega)]
theorem DeepN.same [Tabl] {H H' : Hp} (s : Same H H') : ∀ {n : Nat} {v : V}, DeepN n H v → DeepN n H' v
  | 0, v, h => h.elim .inl fun ⟨p, xs, e, o, l, r⟩ => .inr ⟨p, xs, e, o.elim (fun z => .inl (s _ _ z)) (fun z => .inr (s _ _ z)), l, fun x m => (r x m).elim⟩
  | n + 1, v, h => h.elim .inl fun ⟨p, xs, e, o, l, r⟩ => .inr ⟨p, xs, e, o.elim (fun z => .inl (s _ _ z)) (fun z => .inr (s _ _ z)), l, fun x m => DeepN.same s (r x m)⟩
theorem skip_seq {c : TT} {t S : TS} {D : Ends} {σ : L2.St} {H : Hp} (Pv : Hp → Prop) (hc : ∀ Q : Bool → Hp → Prop, (∀ H', Pv H' → Q false H') → c σ H Q) (hu : ∀ H', Pv H' → S D σ H') : tSeq (tIfS c t tNext) S D σ H :=
  hc _ fun H' p => iteF (hu H' p)
theorem lift_not {tl : TE} {ta : TA} {sp : Sp} {σ : L2.St} {H : Hp} {Q : Bool → Hp → Prop} (Pv : V → Hp → Prop) (h : ∀ Qx : VK, (∀ x H3, Pv x H3 → Qx x H3) → tl σ H Qx)
    (hk : ∀ x H3, Pv x H3 → tNot (tB (tCall sp [] E0 (tCons (tC x) ta))) σ H3 Q) : tNot (tB (tCall sp [] E0 (tCons tl ta))) σ H Q := h _ hk
theorem lift_call {tl : TE} {ta : TA} {sp : Sp} {σ : L2.St} {H : Hp} {Q : VK} (Pv : V → Hp → Prop) (h : ∀ Qx : VK, (∀ x H3, Pv x H3 → Qx x H3) → tl σ H Qx)
    (hk : ∀ x H3, Pv x H3 → tCall sp [] E0 (tCons (tC x) ta) σ H3 Q) : tCall sp [] E0 (tCons tl ta) σ H Q := h _ hk
/-- a told pair zs, and the pair at d: like ones -/
def PairZ (d : V) (zs : List V) (Hx : Hp) : Prop := ∃ (pd : Addr) (nm : Str) (u w : V), d = .ref pd ∧ Hx pd = some (.tup [.str nm, w]) ∧ zs = [.str nm, u] ∧ SameD 8 Hx u w ∧ DeepN 8 Hx u ∧ DeepN 8 Hx w ∧ nm.length ≤ 1000000
theorem PairZ.same [Tabl] {d : V} {zs : List V} {H H' : Hp} (h : PairZ d zs H) (s : Same H H') : PairZ d zs H' := by
  obtain ⟨pd, nm, u, w, e, hp, ez, sm, du, dw, l⟩ := h
  exact ⟨pd, nm, u, w, e, s _ _ hp, ez, sm.keep s, du.same s, dw.same s, l⟩
theorem PairZ.fit {d : V} {zs : List V} {H : Hp} {t : Addr} (h : PairZ d zs H) (ht : H t = some (.tup zs)) : SameD 9 H (.ref t) d ∧ DeepN 9 H (.ref t) ∧ DeepN 9 H d := by
  obtain ⟨pd, nm, u, w, rfl, hp, rfl, sm, du, dw, l⟩ := h
  have row : ∀ {q : V}, DeepN 8 H q → ∀ y ∈ [V.str nm, q], DeepN 8 H y := fun dq y m => by
    rcases List.mem_cons.mp m with m | m
    · subst m
      exact .inl ⟨rfl, fun z e => by cases e; exact l⟩
    · rw [List.mem_singleton.mp m]
      exact dq
  refine ⟨.inr ⟨t, pd, _, _, rfl, rfl, .inl ⟨ht, hp⟩, rfl, by show 2 ≤ 1000000; decide, fun i x y ex ey => ?_⟩, .inr ⟨t, _, rfl, .inr ht, by show 2 ≤ 1000000; decide, row du⟩, .inr ⟨pd, _, rfl, .inr hp, by show 2 ≤ 1000000; decide, row dw⟩⟩
  match i, ex, ey with
  | 0, ex, ey =>
    cases ex
    cases ey
    exact .inl ⟨rfl, rfl⟩
  | 1, ex, ey =>
    cases ex
    cases ey
    exact sm
theorem SameD.symm {H : Hp} : ∀ {n : Nat} {x y : V}, SameD n H x y → SameD n H y x
  | 0, x, y, h => h.elim (fun q => .inl ⟨q.1.symm, by rw [q.1]; exact q.2⟩) fun ⟨p, q, xs, ys, e1, e2, o, l, m, r⟩ => .inr ⟨q, p, ys, xs, e2, e1, o.elim (fun z => .inl ⟨z.2, z.1⟩) (fun z => .inr ⟨z.2, z.1⟩), l.symm, by omega, fun i a b ea eb => (r i b a eb ea).elim⟩
  | n + 1, x, y, h => h.elim (fun q => .inl ⟨q.1.symm, by rw [q.1]; exact q.2⟩) fun ⟨p, q, xs, ys, e1, e2, o, l, m, r⟩ => .inr ⟨q, p, ys, xs, e2, e1, o.elim (fun z => .inl ⟨z.2, z.1⟩) (fun z => .inr ⟨z.2, z.1⟩), l.symm, by omega, fun i a b ea eb => SameD.symm (r i b a eb ea)⟩
end Lb

namespace Lb
open PySem PySem.Spec PyProof.Rows L2
/-! ### the common prefix -/
structure IsCommon (ws : List (List Nat)) (f : List Nat) : Prop where
  pre : ∀ w ∈ ws, ∃ r, w = f ++ r
  most : (∃ w ∈ ws, w = f) ∨ ∃ w ∈ ws, ∃ w' ∈ ws, (w.drop f.length).head? ≠ (w'.drop f.length).head?
theorem IsCommon.le {ws : List (List Nat)} {f g : List Nat} (h : IsCommon ws f) (k : IsCommon ws g) : g.length ≤ f.length := by
  by_cases c : g.length ≤ f.length
  · exact c
  · exfalso
    have hd : ∀ w ∈ ws, (w.drop f.length).head? = g[f.length]? := fun w hw => by
      obtain ⟨r, rfl⟩ := k.pre w hw
      rw [List.head?_drop, List.getElem?_append_left (by omega)]
    rcases h.most with ⟨w, hw, e⟩ | ⟨w, hw, w', hw', n⟩
    · obtain ⟨r, e2⟩ := k.pre w hw
      have : w.length = f.length := by rw [e]
      rw [e2, List.length_append] at this
      omega
    · exact n ((hd w hw).trans (hd w' hw').symm)
theorem IsCommon.uniq {ws : List (List Nat)} {f g : List Nat} (h : IsCommon ws f) (k : IsCommon ws g) : f = g := by
  have e : f.length = g.length := Nat.le_antisymm (k.le h) (h.le k)
  have hw : ∃ w, w ∈ ws := by
    rcases h.most with ⟨w, hw, _⟩ | ⟨w, hw, _⟩
    · exact ⟨w, hw⟩
    · exact ⟨w, hw⟩
  obtain ⟨w, hw⟩ := hw
  obtain ⟨r, e1⟩ := h.pre w hw
  obtain ⟨r', e2⟩ := k.pre w hw
  rw [e1] at e2
  exact (List.append_inj e2 e).1
theorem IsLag.common {a b u v f : List Nat} (e1 : a = f ++ u) (e2 : b = f ++ v) (e3 : u = [] ∨ v = [] ∨ u.head? ≠ v.head?) : IsCommon [a, b] f where
  pre := fun w hw => by
    rcases List.mem_cons.mp hw with rfl | hw
    · exact ⟨u, e1⟩
    · rw [List.mem_singleton.mp hw]
      exact ⟨v, e2⟩
  most := by
    rcases e3 with rfl | rfl | n
    · exact .inl ⟨a, List.mem_cons_self, by rw [e1, List.append_nil]⟩
    · exact .inl ⟨b, List.mem_cons_of_mem _ List.mem_cons_self, by rw [e2, List.append_nil]⟩
    · refine .inr ⟨a, List.mem_cons_self, b, List.mem_cons_of_mem _ List.mem_cons_self, ?_⟩
      rw [e1, e2, List.drop_left, List.drop_left]
      exact n
theorem IsCommon.one (w : List Nat) : IsCommon [w] w where
  pre := fun x hx => ⟨[], by rw [List.mem_singleton.mp hx, List.append_nil]⟩
  most := .inl ⟨w, List.mem_cons_self, rfl⟩
theorem between : ∀ (k : Nat) (low high w : List Nat), low.take k = high.take k → k ≤ low.length → k ≤ high.length → ¬ w < low → ¬ high < w → w.take k = low.take k
  | 0, _, _, _, _, _, _, _, _ => by rw [List.take_zero, List.take_zero]
  | k + 1, [], _, _, _, h, _, _, _ => absurd h (by rw [List.length_nil]; omega)
  | k + 1, _ :: _, [], _, _, _, h, _, _ => absurd h (by rw [List.length_nil]; omega)
  | k + 1, a :: l, b :: h, [], _, _, _, n, _ => absurd (List.nil_lt_cons a l) n
  | k + 1, a :: l, b :: h, c :: w, e, h1, h2, n1, n2 => by
    rw [List.take_succ_cons, List.take_succ_cons] at e
    have eab := (List.cons.inj e).1
    have elh := (List.cons.inj e).2
    subst eab
    rw [List.cons_lt_cons_iff] at n1 n2
    have ec : c = a := by omega
    subst ec
    rw [List.take_succ_cons, List.take_succ_cons, between k l h w elh (by rw [List.length_cons] at h1; omega) (by rw [List.length_cons] at h2; omega) (fun z => n1 (.inr ⟨rfl, z⟩)) (fun z => n2 (.inr ⟨rfl, z⟩))]
theorem lcp_take : ∀ x y : List Nat, x.take (lcp x y) = y.take (lcp x y)
  | [], y => by
    show [].take 0 = y.take 0
    rw [List.take_zero, List.take_zero]
  | a :: x, [] => by
    show (a :: x).take 0 = [].take 0
    rw [List.take_zero, List.take_zero]
  | a :: x, b :: y => by
    unfold lcp
    by_cases h : a = b
    · rw [if_pos h, List.take_succ_cons, List.take_succ_cons, lcp_take x y, h]
    · rw [if_neg h, List.take_zero, List.take_zero]
theorem ltl_trans {a b c : List Nat} (h : a < b) (k : b < c) : a < c := List.lt_trans h k
theorem minOf_spec (x : Str) (xs : List Str) : PySem.W.minOf x xs ∈ x :: xs ∧ ∀ y ∈ x :: xs, ¬ cs y < cs (PySem.W.minOf x xs) := by
  have gen : ∀ (xs : List Str) (x : Str), (xs.foldl (fun a y => if PySem.W.DatumOrd.lt y a = true then y else a) x ∈ x :: xs) ∧ ∀ y ∈ x :: xs, ¬ cs y < cs (xs.foldl (fun a y => if PySem.W.DatumOrd.lt y a = true then y else a) x) := by
    intro xs
    induction xs with
    | nil => exact fun x => ⟨List.mem_cons_self, fun y hy => by
        rw [List.mem_singleton.mp hy]
        exact List.lt_irrefl _⟩
    | cons z r ih =>
      intro x
      rw [List.foldl_cons]
      have h := ih (if PySem.W.DatumOrd.lt z x = true then z else x)
      by_cases c : PySem.W.DatumOrd.lt z x = true
      · rw [if_pos c] at h ⊢
        have c' : cs z < cs x := of_decide_eq_true c
        refine ⟨List.mem_cons_of_mem _ h.1, fun y hy => ?_⟩
        rcases List.mem_cons.mp hy with rfl | hy
        · exact fun l => h.2 z List.mem_cons_self (ltl_trans c' l)
        · exact h.2 y hy
      · rw [if_neg c] at h ⊢
        have c' : ¬ cs z < cs x := fun l => c (decide_eq_true l)
        refine ⟨?_, fun y hy => ?_⟩
        · rcases List.mem_cons.mp h.1 with e | e
          · rw [e]
            exact List.mem_cons_self
          · exact List.mem_cons_of_mem _ (List.mem_cons_of_mem _ e)
        · rcases List.mem_cons.mp hy with rfl | hy
          · exact h.2 y List.mem_cons_self
          · rcases List.mem_cons.mp hy with rfl | hy
            · intro l
              have hx := h.2 x List.mem_cons_self
              exact hx (List.lt_of_le_of_lt (List.not_lt.mp c') l)
            · exact h.2 y (List.mem_cons_of_mem _ hy)
  exact gen xs x
theorem maxOf_spec (x : Str) (xs : List Str) : PySem.W.maxOf x xs ∈ x :: xs ∧ ∀ y ∈ x :: xs, ¬ cs (PySem.W.maxOf x xs) < cs y := by
  have gen : ∀ (xs : List Str) (x : Str), (xs.foldl (fun a y => if PySem.W.DatumOrd.lt a y = true then y else a) x ∈ x :: xs) ∧ ∀ y ∈ x :: xs, ¬ cs (xs.foldl (fun a y => if PySem.W.DatumOrd.lt a y = true then y else a) x) < cs y := by
    intro xs
    induction xs with
    | nil => exact fun x => ⟨List.mem_cons_self, fun y hy => by
        rw [List.mem_singleton.mp hy]
        exact List.lt_irrefl _⟩
    | cons z r ih =>
      intro x
      rw [List.foldl_cons]
      have h := ih (if PySem.W.DatumOrd.lt x z = true then z else x)
      by_cases c : PySem.W.DatumOrd.lt x z = true
      · rw [if_pos c] at h ⊢
        have c' : cs x < cs z := of_decide_eq_true c
        refine ⟨List.mem_cons_of_mem _ h.1, fun y hy => ?_⟩
        rcases List.mem_cons.mp hy with rfl | hy
        · exact fun l => h.2 z List.mem_cons_self (ltl_trans l c')
        · exact h.2 y hy
      · rw [if_neg c] at h ⊢
        have c' : ¬ cs x < cs z := fun l => c (decide_eq_true l)
        refine ⟨?_, fun y hy => ?_⟩
        · rcases List.mem_cons.mp h.1 with e | e
          · rw [e]
            exact List.mem_cons_self
          · exact List.mem_cons_of_mem _ (List.mem_cons_of_mem _ e)
        · rcases List.mem_cons.mp hy with rfl | hy
          · exact h.2 y List.mem_cons_self
          · rcases List.mem_cons.mp hy with rfl | hy
            · intro l
              have hx := h.2 x List.mem_cons_self
              exact c' (List.lt_of_le_of_lt (List.not_lt.mp hx) l)
            · exact h.2 y (List.mem_cons_of_mem _ hy)
  exact gen xs x
theorem common_ok (x : Str) (xs : List Str) : IsCommon ((x :: xs).map cs) ((cs (PySem.W.minOf x xs)).take (lcp (cs (PySem.W.minOf x xs)) (cs (PySem.W.maxOf x xs)))) := by
  have m1 := minOf_spec x xs
  have m2 := maxOf_spec x xs
  generalize PySem.W.minOf x xs = low at *
  generalize PySem.W.maxOf x xs = high at *
  have l1 := (lcp_le (cs low) (cs high)).1
  have l2 := (lcp_le (cs low) (cs high)).2
  have ht := lcp_take (cs low) (cs high)
  have hlen : ((cs low).take (lcp (cs low) (cs high))).length = lcp (cs low) (cs high) := by
    rw [List.length_take]
    omega
  refine ⟨fun w hw => ?_, ?_⟩
  · obtain ⟨y, hy, rfl⟩ := List.mem_map.mp hw
    have e := between _ _ _ (cs y) ht l1 l2 (m1.2 y hy) (m2.2 y hy)
    refine ⟨(cs y).drop (lcp (cs low) (cs high)), ?_⟩
    rw [← e, List.take_append_drop]
  · rw [hlen]
    obtain ⟨f, e1, e2, e3⟩ := lcp_lag (cs low) (cs high)
    have il : cs low ∈ (x :: xs).map cs := List.mem_map_of_mem m1.1
    have ih : cs high ∈ (x :: xs).map cs := List.mem_map_of_mem m2.1
    rcases e3 with e | e | e
    · refine .inl ⟨_, il, ?_⟩
      rw [List.take_of_length_le (List.drop_eq_nil_iff.mp e)]
    · refine .inl ⟨_, ih, ?_⟩
      rw [ht, List.take_of_length_le (List.drop_eq_nil_iff.mp e)]
    · exact .inr ⟨_, il, _, ih, e⟩
end Lb

namespace Lb
open PySem PySem.Spec PyProof.Rows L2
def topS (i : Nat) : Stmt := PySem.Challenge.pw_lagbound_k01_lag_of_words.main.body.getD i (.Pass ⟨0, 0, 0, 0⟩)
abbrev s_shared_length : Stmt := topS 1
theorem sc_shared_length : FnScope ["first", "second", "most", "shared", "size"] ["first", "second"] (defScope s_shared_length) := ⟨rfl, rfl, rfl, by decide +kernel, rfl, by decide +kernel, by decide +kernel⟩
abbrev s_common : Stmt := topS 2
theorem sc_common : FnScope ["words", "low", "high"] ["words"] (defScope s_common) := ⟨rfl, rfl, rfl, by decide +kernel, rfl, by decide +kernel, by decide +kernel⟩
abbrev s_starts : Stmt := topS 3
theorem sc_starts : FnScope ["prefix", "word"] ["prefix", "word"] (defScope s_starts) := ⟨rfl, rfl, rfl, by decide +kernel, rfl, by decide +kernel, by decide +kernel⟩
abbrev s_cut : Stmt := topS 4
theorem sc_cut : FnScope ["prefix", "word"] ["prefix", "word"] (defScope s_cut) := ⟨rfl, rfl, rfl, by decide +kernel, rfl, by decide +kernel, by decide +kernel⟩
abbrev s_lag_of : Stmt := topS 5
theorem sc_lag_of : FnScope ["first", "second", "shared"] ["first", "second"] (defScope s_lag_of) := ⟨rfl, rfl, rfl, by decide +kernel, rfl, by decide +kernel, by decide +kernel⟩
abbrev s_mix : Stmt := topS 7
theorem sc_mix : FnScope ["number", "tick", "one", "two"] ["number", "tick"] (defScope s_mix) := ⟨rfl, rfl, rfl, by decide +kernel, rfl, by decide +kernel, by decide +kernel⟩
abbrev s_store : Stmt := topS 8
theorem sc_store : FnScope ["script", "seed", "cell"] ["script"] (defScope s_store) := ⟨rfl, rfl, rfl, by decide +kernel, rfl, by decide +kernel, by decide +kernel⟩
abbrev s_take : Stmt := topS 9
theorem sc_take : FnScope ["store", "many", "cells", "cell", "digit"] ["store", "many"] (defScope s_take) := ⟨rfl, rfl, rfl, by decide +kernel, rfl, by decide +kernel, by decide +kernel⟩
abbrev s_pick : Stmt := topS 10
theorem sc_pick : FnScope ["store", "row"] ["store", "row"] (defScope s_pick) := ⟨rfl, rfl, rfl, by decide +kernel, rfl, by decide +kernel, by decide +kernel⟩
abbrev s_between : Stmt := topS 11
theorem sc_between : FnScope ["store", "low", "high", "draw"] ["store", "low", "high"] (defScope s_between) := ⟨rfl, rfl, rfl, by decide +kernel, rfl, by decide +kernel, by decide +kernel⟩
abbrev s_letters : Stmt := topS 12
theorem sc_letters : FnScope ["store", "limit", "size", "every", "draw", "at", "word", "k"] ["store", "limit"] (defScope s_letters) := ⟨rfl, rfl, rfl, by decide +kernel, rfl, by decide +kernel, by decide +kernel⟩
abbrev s_word : Stmt := topS 13
theorem sc_word : FnScope ["store", "letters", "limit", "draw", "size", "k"] ["store", "letters", "limit"] (defScope s_word) := ⟨rfl, rfl, rfl, by decide +kernel, rfl, by decide +kernel, by decide +kernel⟩
abbrev s_long_word : Stmt := topS 14
theorem sc_long_word : FnScope ["store", "letters", "size", "piece", "word", "at"] ["store", "letters", "size"] (defScope s_long_word) := ⟨rfl, rfl, rfl, by decide +kernel, rfl, by decide +kernel, by decide +kernel⟩
abbrev s_unlike_word : Stmt := topS 15
theorem sc_unlike_word : FnScope ["store", "letters", "word", "draw", "at", "x"] ["store", "letters", "word"] (defScope s_unlike_word) := ⟨rfl, rfl, rfl, by decide +kernel, rfl, by decide +kernel, by decide +kernel⟩
abbrev s_words : Stmt := topS 16
theorem sc_words : FnScope ["store", "letters", "size", "limit", "row", "k", "word"] ["store", "letters", "size", "limit"] (defScope s_words) := ⟨rfl, rfl, rfl, by decide +kernel, rfl, by decide +kernel, by decide +kernel⟩
abbrev s_same : Stmt := topS 17
theorem sc_same : FnScope ["actual", "expected", "k"] ["actual", "expected"] (defScope s_same) := ⟨rfl, rfl, rfl, by decide +kernel, rfl, by decide +kernel, by decide +kernel⟩
abbrev s_is_lag_of : Stmt := topS 18
theorem sc_is_lag_of : FnScope ["lag", "one", "two"] ["lag", "one", "two"] (defScope s_is_lag_of) := ⟨rfl, rfl, rfl, by decide +kernel, rfl, by decide +kernel, by decide +kernel⟩
abbrev s_common_asked : Stmt := topS 19
theorem sc_common_asked : FnScope ["words", "kept", "front", "signs", "word", "x"] ["words"] (defScope s_common_asked) := ⟨rfl, rfl, rfl, by decide +kernel, rfl, by decide +kernel, by decide +kernel⟩
abbrev s_prefix_asked : Stmt := topS 20
theorem sc_prefix_asked : FnScope ["prefix", "word", "due", "rest"] ["prefix", "word"] (defScope s_prefix_asked) := ⟨rfl, rfl, rfl, by decide +kernel, rfl, by decide +kernel, by decide +kernel⟩
abbrev s_prefixes : Stmt := topS 21
theorem sc_prefixes : FnScope ["store", "letters", "one", "two", "row"] ["store", "letters", "one", "two"] (defScope s_prefixes) := ⟨rfl, rfl, rfl, by decide +kernel, rfl, by decide +kernel, by decide +kernel⟩
abbrev s_law : Stmt := topS 22
theorem sc_law : FnScope ["script", "store", "letters", "front", "one", "two", "words", "lag", "more", "prefix", "word"] ["script"] (defScope s_law) := ⟨rfl, rfl, rfl, by decide +kernel, rfl, by decide +kernel, by decide +kernel⟩
structure Txt [Tabl] (K : PySem.W.Frag) (mg : Str → Option Value) (base : Heap) where
  f_shared_length : Addr
  fd_shared_length : FuncData
  F_shared_length : Fun K "shared_length" "shared_length" s_shared_length f_shared_length fd_shared_length
  b_shared_length : Binds K fd_shared_length ["first", "second"] []
  g_shared_length : mg "shared_length" = some (.ref f_shared_length)
  f_common : Addr
  fd_common : FuncData
  F_common : Fun K "common" "common" s_common f_common fd_common
  b_common : Binds K fd_common ["words"] []
  g_common : mg "common" = some (.ref f_common)
  f_starts : Addr
  fd_starts : FuncData
  F_starts : Fun K "starts" "starts" s_starts f_starts fd_starts
  b_starts : Binds K fd_starts ["prefix", "word"] []
  g_starts : mg "starts" = some (.ref f_starts)
  f_cut : Addr
  fd_cut : FuncData
  F_cut : Fun K "cut" "cut" s_cut f_cut fd_cut
  b_cut : Binds K fd_cut ["prefix", "word"] []
  g_cut : mg "cut" = some (.ref f_cut)
  f_lag_of : Addr
  fd_lag_of : FuncData
  F_lag_of : Fun K "lag_of" "lag_of" s_lag_of f_lag_of fd_lag_of
  b_lag_of : Binds K fd_lag_of ["first", "second"] []
  g_lag_of : mg "lag_of" = some (.ref f_lag_of)
  f_mix : Addr
  fd_mix : FuncData
  F_mix : Fun K "_law_mix" "_law_mix" s_mix f_mix fd_mix
  b_mix : Binds K fd_mix ["number", "tick"] []
  g_mix : mg "_law_mix" = some (.ref f_mix)
  f_store : Addr
  fd_store : FuncData
  F_store : Fun K "_law_store" "_law_store" s_store f_store fd_store
  b_store : Binds K fd_store ["script"] []
  g_store : mg "_law_store" = some (.ref f_store)
  f_take : Addr
  fd_take : FuncData
  F_take : Fun K "_law_take" "_law_take" s_take f_take fd_take
  b_take : Binds K fd_take ["store", "many"] []
  g_take : mg "_law_take" = some (.ref f_take)
  f_pick : Addr
  fd_pick : FuncData
  F_pick : Fun K "_law_pick" "_law_pick" s_pick f_pick fd_pick
  b_pick : Binds K fd_pick ["store", "row"] []
  g_pick : mg "_law_pick" = some (.ref f_pick)
  f_between : Addr
  fd_between : FuncData
  F_between : Fun K "_law_between" "_law_between" s_between f_between fd_between
  b_between : Binds K fd_between ["store", "low", "high"] []
  g_between : mg "_law_between" = some (.ref f_between)
  f_letters : Addr
  fd_letters : FuncData
  F_letters : Fun K "_law_letters" "_law_letters" s_letters f_letters fd_letters
  b_letters : Binds K fd_letters ["store", "limit"] []
  g_letters : mg "_law_letters" = some (.ref f_letters)
  f_word : Addr
  fd_word : FuncData
  F_word : Fun K "_law_word" "_law_word" s_word f_word fd_word
  b_word : Binds K fd_word ["store", "letters", "limit"] []
  g_word : mg "_law_word" = some (.ref f_word)
  f_long_word : Addr
  fd_long_word : FuncData
  F_long_word : Fun K "_law_long_word" "_law_long_word" s_long_word f_long_word fd_long_word
  b_long_word : Binds K fd_long_word ["store", "letters", "size"] []
  g_long_word : mg "_law_long_word" = some (.ref f_long_word)
  f_unlike_word : Addr
  fd_unlike_word : FuncData
  F_unlike_word : Fun K "_law_unlike_word" "_law_unlike_word" s_unlike_word f_unlike_word fd_unlike_word
  b_unlike_word : Binds K fd_unlike_word ["store", "letters", "word"] []
  g_unlike_word : mg "_law_unlike_word" = some (.ref f_unlike_word)
  f_words : Addr
  fd_words : FuncData
  F_words : Fun K "_law_words" "_law_words" s_words f_words fd_words
  b_words : Binds K fd_words ["store", "letters", "size", "limit"] []
  g_words : mg "_law_words" = some (.ref f_words)
  f_same : Addr
  fd_same : FuncData
  F_same : Fun K "_law_same" "_law_same" s_same f_same fd_same
  b_same : Binds K fd_same ["actual", "expected"] []
  g_same : mg "_law_same" = some (.ref f_same)
  f_is_lag_of : Addr
  fd_is_lag_of : FuncData
  F_is_lag_of : Fun K "_law_is_lag_of" "_law_is_lag_of" s_is_lag_of f_is_lag_of fd_is_lag_of
  b_is_lag_of : Binds K fd_is_lag_of ["lag", "one", "two"] []
  g_is_lag_of : mg "_law_is_lag_of" = some (.ref f_is_lag_of)
  f_common_asked : Addr
  fd_common_asked : FuncData
  F_common_asked : Fun K "_law_common_asked" "_law_common_asked" s_common_asked f_common_asked fd_common_asked
  b_common_asked : Binds K fd_common_asked ["words"] []
  g_common_asked : mg "_law_common_asked" = some (.ref f_common_asked)
  f_prefix_asked : Addr
  fd_prefix_asked : FuncData
  F_prefix_asked : Fun K "_law_prefix_asked" "_law_prefix_asked" s_prefix_asked f_prefix_asked fd_prefix_asked
  b_prefix_asked : Binds K fd_prefix_asked ["prefix", "word"] []
  g_prefix_asked : mg "_law_prefix_asked" = some (.ref f_prefix_asked)
  f_prefixes : Addr
  fd_prefixes : FuncData
  F_prefixes : Fun K "_law_prefixes" "_law_prefixes" s_prefixes f_prefixes fd_prefixes
  b_prefixes : Binds K fd_prefixes ["store", "letters", "one", "two"] []
  g_prefixes : mg "_law_prefixes" = some (.ref f_prefixes)
  f_law : Addr
  fd_law : FuncData
  F_law : Fun K "law" "law" s_law f_law fd_law
  b_law : Binds K fd_law ["script"] []
  g_law : mg "law" = some (.ref f_law)
  z_bool : mg "bool" = none
  z_int : mg "int" = none
  z_isinstance : mg "isinstance" = none
  z_len : mg "len" = none
  z_list : mg "list" = none
  z_max : mg "max" = none
  z_min : mg "min" = none
  z_range : mg "range" = none
  z_str : mg "str" = none
  z_tuple : mg "tuple" = none
section
variable [Tabl] {P : Program} {w : World} {K : PySem.W.Frag} {mg : Str → Option Value} {base : Heap}
/-- any number that is not negative -/
def sp_mix (_ : PySem.W.Frag) : Sp := fun vs H Q _ => ∃ n t : Int, vs = [.int n, .int t] ∧ ∀ r : Int, 0 ≤ r → Q (.int r) H
theorem ok_mix (T : Txt K mg base) : FnOk P w K mg base CX0 (0 + 1) T.f_mix T.fd_mix ["number", "tick"] (sp_mix K) := by
  refine T.F_mix.ok sc_mix (fun vs H Q E h => ?_) (fun cdv A outer s H vs Q E hr h => ?_)
  · obtain ⟨n, t, rfl, _⟩ := h
    rfl
  · obtain ⟨n, t, rfl, q⟩ := h
    refine ⟨_, (pss_cons (ps_set (i := 2) sc_mix.nd rfl (.inl rfl) (pe_op op_mod (pe_callTy call_int1 (by rfl) T.z_int (by decide +kernel) (pa_cons (pe_op op_add (pe_op op_add (pe_op op_mul (pe_op op_mod (pe_callTy call_int1 (by rfl) T.z_int (by decide +kernel) (pa_cons (pv 0) pa_nil)) pe_int) pe_int) (pe_op op_mul (pv 1) pe_int)) pe_int) pa_nil)) pe_int))
      (pss_cons (ps_set (i := 3) sc_mix.nd rfl (.inl rfl) (pe_op op_mod (pe_callTy call_int1 (by rfl) T.z_int (by decide +kernel) (pa_cons (pe_op op_add (pe_op op_add (pe_op op_mul (pv 2) (pv 2)) (pe_op op_fdiv (pv 2) pe_int)) (pe_op op_mul (pv 1) pe_int)) pa_nil)) pe_int))
      (pss_one (ps_ret (pe_op op_mod (pe_callTy call_int1 (by rfl) T.z_int (by decide +kernel) (pa_cons (pe_op op_add (pe_op op_add (pe_op op_mul (pv 3) (pv 3)) (pe_op op_fdiv (pv 3) pe_int)) (pv 2)) pa_nil)) pe_int))))), ?_⟩
    have hm : (0 : Int) < 2147483647 := by decide
    have hk : (0 : Int) < 1000000007 := by decide
    have hj : (0 : Int) < 2147483629 := by decide
    have b1 : 0 ≤ (n % 2147483647 * 48271 + t * 69621 + 7919) % 2147483647 := Int.emod_nonneg _ (by decide)
    have b2 : (n % 2147483647 * 48271 + t * 69621 + 7919) % 2147483647 < 2147483647 := Int.emod_lt_of_pos _ hm
    have w1 : -(2 ^ 64 : Int) < (n % 2147483647 * 48271 + t * 69621 + 7919) % 2147483647 ∧ (n % 2147483647 * 48271 + t * 69621 + 7919) % 2147483647 < 2 ^ 64 := ⟨by omega, by omega⟩
    refine ⟨.int n, rfl, .inl ⟨_, rfl, _, _, rfl, rfl, hm, _, _, rfl, rfl, .inr ⟨by decide, by decide⟩, .int t, rfl, _, _, rfl, rfl, .inr ⟨by decide, by decide⟩, _, _, rfl, rfl, _, _, rfl, rfl, .inl ⟨_, rfl, _, _, rfl, rfl, hm, ?_⟩⟩⟩
    have x1 : ∃ one, one = (n % 2147483647 * 48271 + t * 69621 + 7919) % 2147483647 := ⟨_, rfl⟩
    obtain ⟨one, e1⟩ := x1
    rw [← e1] at w1
    have b3 : 0 ≤ (one * one + one / 127 + t * 3571) % 1000000007 := Int.emod_nonneg _ (by decide)
    have b4 : (one * one + one / 127 + t * 3571) % 1000000007 < 1000000007 := Int.emod_lt_of_pos _ hk
    have w2 : -(2 ^ 64 : Int) < (one * one + one / 127 + t * 3571) % 1000000007 ∧ (one * one + one / 127 + t * 3571) % 1000000007 < 2 ^ 64 := ⟨by omega, by omega⟩
    subst e1
    refine ⟨_, rfl, _, rfl, _, _, rfl, rfl, .inl w1, _, rfl, _, _, rfl, rfl, ⟨by decide, by decide⟩, _, _, rfl, rfl, .int t, rfl, _, _, rfl, rfl, .inr ⟨by decide, by decide⟩, _, _, rfl, rfl, .inl ⟨_, rfl, _, _, rfl, rfl, hk, ?_⟩⟩
    exact ⟨_, rfl, _, rfl, _, _, rfl, rfl, .inl w2, _, rfl, _, _, rfl, rfl, ⟨by decide, by decide⟩, _, _, rfl, rfl, _, rfl, _, _, rfl, rfl, .inl ⟨_, rfl, _, _, rfl, rfl, hj, q _ (Int.emod_nonneg _ (by decide))⟩⟩

/-- a number d from 0 on, below many, or 0; the store moves on, all else stands -/
def sp_take (_ : PySem.W.Frag) : Sp := fun vs H Q _ => ∃ (a ca : Addr) (many : Int), vs = [.ref a, .int many] ∧ Sto H a ca ∧ many < 1073741824 ∧
  ∀ (d : Int) (H' : Hp), 0 ≤ d → (d < many ∨ d = 0) → But a H H' → Sto H' a ca → Q (.int d) H'
theorem ok_take (T : Txt K mg base) : FnOk P w K mg base CX0 (1 + 1) T.f_take T.fd_take ["store", "many"] (sp_take K) := by
  refine T.F_take.ok sc_take (fun vs H Q E h => ?_) (fun cdv A outer s H vs Q E hr h => ?_)
  · obtain ⟨a, ca, m, rfl, _⟩ := h
    rfl
  · obtain ⟨a, ca, m, rfl, S, hm, q⟩ := h
    refine ⟨_, (pss_cons (ps_set (i := 1) sc_take.nd rfl (.inl rfl) (pe_callB (call_max2 rfl) (by rfl) T.z_max (by decide +kernel) (pa_cons pe_int (pa_cons (pv 1) pa_nil))))
      (pss_cons (ps_asg (pe_op op_add (pe_ix ix_list (pv 0) pe_int (fun _ _ => rfl)) pe_int) (pg_sub (pv 0) pe_int set_list))
      (pss_cons (ps_set (i := 2) sc_take.nd rfl (.inl rfl) (pe_ix ix_list (pv 0) pe_int (fun _ _ => rfl)))
      (pss_cons (ps_if (PW.pt (pw_and (pt_cmpR op_lt (pe_ix ix_list (pv 0) pe_int (fun _ _ => rfl)) pe_int (nomark _)) (pw_and1 (pt_cmpR op_lt (pe_ix ix_list (pv 0) pe_int (fun _ _ => rfl)) (pe_callB call_len_seq (by rfl) T.z_len PySem.boot_len (pa_cons (pv 2) pa_nil)) (nomark _))))) (pss_cons (ps_set (i := 3) sc_take.nd rfl (.inl rfl) (pe_callTy call_int1 (by rfl) T.z_int (by decide +kernel) (pa_cons (pe_ix ix_list (pv 2) (pe_ix ix_list (pv 0) pe_int (fun _ _ => rfl)) (fun _ _ => rfl)) pa_nil)))
      (pss_cons (ps_asg (pe_op op_add (pe_ix ix_list (pv 0) pe_int (fun _ _ => rfl)) pe_int) (pg_sub (pv 0) pe_int set_list))
      (pss_cons (ps_if (pt_cmpR op_lt (pv 3) (pe_op op_pow pe_int pe_int) (nomark _)) (pss_one (ps_ret (pe_op op_mod (pe_callTy call_int1 (by rfl) T.z_int (by decide +kernel) (pa_cons (pe_call (ok_mix T) (hr.mono (by first | decide | exact Nat.le_refl _)) (by rfl) T.g_mix T.F_mix.kp T.b_mix .nil pass0 (pa_cons (pv 3) (pa_cons (pe_ix ix_list (pv 0) pe_int (fun _ _ => rfl)) pa_nil))) pa_nil)) (pv 1)))) pss_nil)
      (pss_one (ps_asg (pe_callTy call_int1 (by rfl) T.z_int (by decide +kernel) (pa_cons (pv 3) pa_nil)) (pg_sub (pv 0) pe_int set_list)))))) pss_nil)
      (pss_cons (ps_if (pt_cmpR op_lt (pe_ix ix_list (pv 0) pe_int (fun _ _ => rfl)) pe_int (nomark _)) (pss_one (ps_ret (pe_op op_mod (pe_callTy call_int1 (by rfl) T.z_int (by decide +kernel) (pa_cons (pe_call (ok_mix T) (hr.mono (by first | decide | exact Nat.le_refl _)) (by rfl) T.g_mix T.F_mix.kp T.b_mix .nil pass0 (pa_cons (pe_ix ix_list (pv 0) pe_int (fun _ _ => rfl)) (pa_cons (pe_ix ix_list (pv 0) pe_int (fun _ _ => rfl)) pa_nil))) pa_nil)) (pv 1)))) pss_nil)
      (pss_cons (ps_set (i := 4) sc_take.nd rfl (.inl rfl) (pe_op op_mod (pe_callTy call_int1 (by rfl) T.z_int (by decide +kernel) (pa_cons (pe_ix ix_list (pv 0) pe_int (fun _ _ => rfl)) pa_nil)) (pv 1)))
      (pss_cons (ps_asg (pe_op op_fdiv (pe_callTy call_int1 (by rfl) T.z_int (by decide +kernel) (pa_cons (pe_ix ix_list (pv 0) pe_int (fun _ _ => rfl)) pa_nil)) (pv 1)) (pg_sub (pv 0) pe_int set_list))
      (pss_one (ps_ret (pv 4)))))))))), ?_⟩
    obtain ⟨ns, i, b, t, sd, h1, h2, h3, h4⟩ := S
    -- many = max(1, many)
    refine ⟨.int m, rfl, _, _, rfl, ?_⟩
    have hM : ∃ M : Int, (if m > 1 then m else 1) = M ∧ 1 ≤ M ∧ M < 1073741824 ∧ ∀ d, d < M → 0 ≤ d → (d < m ∨ d = 0) := by
      by_cases g : m > 1
      · exact ⟨m, by rw [if_pos g], by omega, hm, fun d z _ => .inl z⟩
      · exact ⟨1, by rw [if_neg g], by omega, by decide, fun d z1 z2 => .inr (by omega)⟩
    obtain ⟨M, eM, hM1, hM2, hMd⟩ := hM
    rw [eM]
    have hM0 : 0 < M := by omega
    -- store[3] = store[3] + 1
    refine ⟨.ref a, rfl, _, _, _, _, rfl, rfl, .inl (.inl h1), rfl, _, _, rfl, rfl, .ref a, rfl, a, _, 3, 3, rfl, rfl, h1, rfl, ?_⟩
    -- cells = store[0]
    have h1' : (upd H a (.lst [.ref ca, .int i, .int b, .int (t + 1), .int sd])) a = some (.lst [.ref ca, .int i, .int b, .int (t + 1), .int sd]) := upd_same
    have h2' : (upd H a (.lst [.ref ca, .int i, .int b, .int (t + 1), .int sd])) ca = some (.lst (ns.map V.int)) := by
      rw [upd_ne h4]
      exact h2
    have hB : But a H (upd H a (.lst [.ref ca, .int i, .int b, .int (t + 1), .int sd])) := But.put h1
    have tail : ∀ (Ht : Hp) (bt : Int) (it tt : Int), Ht a = some (.lst [.ref ca, .int it, .int bt, .int tt, .int sd]) → Ht ca = some (.lst (ns.map V.int)) → 0 ≤ it → But a H Ht →
      ∀ r : Int, ∀ (d : Int) (H' : Hp), d = r % M → (H' = Ht ∨ ∃ b' : Int, H' = upd Ht a (.lst [.ref ca, .int it, .int b', .int tt, .int sd])) → Q (.int d) H' := by
      intro Ht bt it tt e1 e2 e3 eB r d H' ed eH
      subst ed
      have d0 : 0 ≤ r % M := Int.emod_nonneg _ (by omega)
      have d1 : r % M < M := Int.emod_lt_of_pos _ hM0
      rcases eH with rfl | ⟨b', rfl⟩
      · exact q _ _ d0 (hMd _ d1 d0) eB ⟨ns, it, bt, tt, sd, e1, e2, e3, h4⟩
      · refine q _ _ d0 (hMd _ d1 d0) (eB.trans (But.put e1)) ⟨ns, it, b', tt, sd, upd_same, ?_, e3, h4⟩
        rw [upd_ne h4]
        exact e2
    -- the tests
    refine ⟨.ref a, rfl, _, _, _, _, rfl, rfl, .inl (.inl h1'), rfl, .ref a, rfl, _, _, _, _, rfl, rfl, .inl (.inl h1'), rfl, _, _, rfl, rfl, _, rfl, ite2 (fun g1 => ?_) (fun g1 => ?_)⟩
    · refine ⟨.ref a, rfl, _, _, _, _, rfl, rfl, .inl (.inl h1'), rfl, .ref ca, rfl, _, _, rfl, .inl (.inl (.inl h2')), _, _, rfl, rfl, _, rfl, ite2 (fun g2 => ?_) (fun g2 => ?_)⟩
      · obtain ⟨n, hn⟩ := ints_at h3 (of_decide_eq_true g2)
        -- cell = int(cells[store[1]])
        refine ⟨.ref ca, rfl, .ref a, rfl, _, _, _, _, rfl, rfl, .inl (.inl h1'), rfl, _, _, _, _, rfl, rfl, .inl (.inl h2'), hn, .inl ⟨_, rfl, ?_⟩⟩
        -- store[1] = store[1] + 1
        refine ⟨.ref a, rfl, _, _, _, _, rfl, rfl, .inl (.inl h1'), rfl, _, _, rfl, rfl, .ref a, rfl, a, _, 1, 1, rfl, rfl, h1', rfl, ?_⟩
        have k1 : (upd (upd H a (.lst [.ref ca, .int i, .int b, .int (t + 1), .int sd])) a (.lst [.ref ca, .int (i + 1), .int b, .int (t + 1), .int sd])) a = some (.lst [.ref ca, .int (i + 1), .int b, .int (t + 1), .int sd]) := upd_same
        have k2 : (upd (upd H a (.lst [.ref ca, .int i, .int b, .int (t + 1), .int sd])) a (.lst [.ref ca, .int (i + 1), .int b, .int (t + 1), .int sd])) ca = some (.lst (ns.map V.int)) := by
          rw [upd_ne h4]
          exact h2'
        have kB := hB.trans (But.put (a := a) (H := (upd H a (.lst [.ref ca, .int i, .int b, .int (t + 1), .int sd]))) (o := (.lst [.ref ca, .int (i + 1), .int b, .int (t + 1), .int sd])) h1')
        have k3 : 0 ≤ i + 1 := by omega
        -- if cell < 10 ** 18
        refine ⟨_, rfl, _, _, rfl, rfl, ⟨by decide, by decide, by decide⟩, _, _, rfl, rfl, _, rfl, ite2 (fun g3 => ?_) (fun g3 => ?_)⟩
        · exact ⟨_, rfl, .ref a, rfl, _, _, _, _, rfl, rfl, .inl (.inl k1), rfl, _, _, rfl, fun r hr0 => .inl ⟨_, rfl, _, rfl, _, _, rfl, rfl, hM0, tail _ _ _ _ k1 k2 k3 kB r _ _ rfl (.inl rfl)⟩⟩
        · -- store[2] = int(cell)
          refine ⟨_, rfl, .inl ⟨_, rfl, .ref a, rfl, a, _, 2, 2, rfl, rfl, k1, rfl, ?_⟩⟩
          have m1 : (upd (upd (upd H a (.lst [.ref ca, .int i, .int b, .int (t + 1), .int sd])) a (.lst [.ref ca, .int (i + 1), .int b, .int (t + 1), .int sd])) a (.lst [.ref ca, .int (i + 1), .int n, .int (t + 1), .int sd])) a = some (.lst [.ref ca, .int (i + 1), .int n, .int (t + 1), .int sd]) := upd_same
          have m2 : (upd (upd (upd H a (.lst [.ref ca, .int i, .int b, .int (t + 1), .int sd])) a (.lst [.ref ca, .int (i + 1), .int b, .int (t + 1), .int sd])) a (.lst [.ref ca, .int (i + 1), .int n, .int (t + 1), .int sd])) ca = some (.lst (ns.map V.int)) := by
            rw [upd_ne h4]
            exact k2
          have mB := kB.trans (But.put (a := a) (H := (upd (upd H a (.lst [.ref ca, .int i, .int b, .int (t + 1), .int sd])) a (.lst [.ref ca, .int (i + 1), .int b, .int (t + 1), .int sd]))) (o := (.lst [.ref ca, .int (i + 1), .int n, .int (t + 1), .int sd])) k1)
          refine ⟨.ref a, rfl, _, _, _, _, rfl, rfl, .inl (.inl m1), rfl, _, _, rfl, rfl, _, rfl, ite2 (fun g4 => ?_) (fun g4 => ?_)⟩
          · exact ⟨.ref a, rfl, _, _, _, _, rfl, rfl, .inl (.inl m1), rfl, .ref a, rfl, _, _, _, _, rfl, rfl, .inl (.inl m1), rfl, _, _, rfl, fun r hr0 => .inl ⟨_, rfl, _, rfl, _, _, rfl, rfl, hM0, tail _ _ _ _ m1 m2 k3 mB r _ _ rfl (.inl rfl)⟩⟩
          · exact ⟨.ref a, rfl, _, _, _, _, rfl, rfl, .inl (.inl m1), rfl, .inl ⟨_, rfl, _, rfl, _, _, rfl, rfl, hM0, .ref a, rfl, _, _, _, _, rfl, rfl, .inl (.inl m1), rfl, .inl ⟨_, rfl, _, rfl, _, _, rfl, rfl, ⟨hM0, hM2⟩, .ref a, rfl, a, _, 2, 2, rfl, rfl, m1, rfl, _, rfl, tail _ _ _ _ m1 m2 k3 mB _ _ _ rfl (.inr ⟨_, rfl⟩)⟩⟩⟩
      · refine ⟨.ref a, rfl, _, _, _, _, rfl, rfl, .inl (.inl h1'), rfl, _, _, rfl, rfl, _, rfl, ite2 (fun g4 => ?_) (fun g4 => ?_)⟩
        · exact ⟨.ref a, rfl, _, _, _, _, rfl, rfl, .inl (.inl h1'), rfl, .ref a, rfl, _, _, _, _, rfl, rfl, .inl (.inl h1'), rfl, _, _, rfl, fun r hr0 => .inl ⟨_, rfl, _, rfl, _, _, rfl, rfl, hM0, tail _ _ _ _ h1' h2' h3 hB r _ _ rfl (.inl rfl)⟩⟩
        · exact ⟨.ref a, rfl, _, _, _, _, rfl, rfl, .inl (.inl h1'), rfl, .inl ⟨_, rfl, _, rfl, _, _, rfl, rfl, hM0, .ref a, rfl, _, _, _, _, rfl, rfl, .inl (.inl h1'), rfl, .inl ⟨_, rfl, _, rfl, _, _, rfl, rfl, ⟨hM0, hM2⟩, .ref a, rfl, a, _, 2, 2, rfl, rfl, h1', rfl, _, rfl, tail _ _ _ _ h1' h2' h3 hB _ _ _ rfl (.inr ⟨_, rfl⟩)⟩⟩⟩
    · refine ⟨.ref a, rfl, _, _, _, _, rfl, rfl, .inl (.inl h1'), rfl, _, _, rfl, rfl, _, rfl, ite2 (fun g4 => ?_) (fun g4 => ?_)⟩
      · exact ⟨.ref a, rfl, _, _, _, _, rfl, rfl, .inl (.inl h1'), rfl, .ref a, rfl, _, _, _, _, rfl, rfl, .inl (.inl h1'), rfl, _, _, rfl, fun r hr0 => .inl ⟨_, rfl, _, rfl, _, _, rfl, rfl, hM0, tail _ _ _ _ h1' h2' h3 hB r _ _ rfl (.inl rfl)⟩⟩
      · exact ⟨.ref a, rfl, _, _, _, _, rfl, rfl, .inl (.inl h1'), rfl, .inl ⟨_, rfl, _, rfl, _, _, rfl, rfl, hM0, .ref a, rfl, _, _, _, _, rfl, rfl, .inl (.inl h1'), rfl, .inl ⟨_, rfl, _, rfl, _, _, rfl, rfl, ⟨hM0, hM2⟩, .ref a, rfl, a, _, 2, 2, rfl, rfl, h1', rfl, _, rfl, tail _ _ _ _ h1' h2' h3 hB _ _ _ rfl (.inr ⟨_, rfl⟩)⟩⟩⟩

def sp_between (_ : PySem.W.Frag) : Sp := fun vs H Q _ => ∃ (a ca : Addr) (lo hi : Int), vs = [.ref a, .int lo, .int hi] ∧ Sto H a ca ∧ hi - lo < 1000000000 ∧
  ∀ (r : Int) (H' : Hp), lo ≤ r → (r ≤ hi ∨ r = lo) → But a H H' → Sto H' a ca → Q (.int r) H'
theorem ok_between (T : Txt K mg base) : FnOk P w K mg base CX0 (2 + 1) T.f_between T.fd_between ["store", "low", "high"] (sp_between K) := by
  refine T.F_between.ok sc_between (fun vs H Q E h => ?_) (fun cdv A outer s H vs Q E hr h => ?_)
  · obtain ⟨a, ca, lo, hi, rfl, _⟩ := h
    rfl
  · obtain ⟨a, ca, lo, hi, rfl, S, hd, q⟩ := h
    refine ⟨_, (pss_cons (ps_set (i := 3) sc_between.nd rfl (.inl rfl) (pe_call (ok_take T) (hr.mono (by first | decide | exact Nat.le_refl _)) (by rfl) T.g_take T.F_take.kp T.b_take .nil pass0 (pa_cons (pv 0) (pa_cons pe_int pa_nil))))
      (pss_cons (ps_if (PW.pt (pw_or (pt_cmpR op_eq (pv 3) pe_int (nomark _)) (pw_or1 (pt_cmpR op_lt (pv 2) (pv 1) (nomark _))))) (pss_one (ps_ret (pv 1))) pss_nil)
      (pss_cons (ps_if (pt_cmpR op_eq (pv 3) pe_int (nomark _)) (pss_one (ps_ret (pv 2))) pss_nil)
      (pss_one (ps_ret (pe_op op_add (pv 1) (pe_call (ok_take T) (hr.mono (by first | decide | exact Nat.le_refl _)) (by rfl) T.g_take T.F_take.kp T.b_take .nil pass0 (pa_cons (pv 0) (pa_cons (pe_op op_add (pe_op op_sub (pv 2) (pv 1)) pe_int) pa_nil))))))))), ?_⟩
    refine ⟨_, rfl, a, ca, 6, rfl, S, by decide, fun d H1 d0 d1 B1 S1 => ?_⟩
    refine ⟨_, rfl, rfl, _, rfl, ite2 (fun g1 => ?_) (fun g1 => ?_)⟩
    · exact ⟨_, rfl, q _ _ (Int.le_refl _) (.inr rfl) B1 S1⟩
    · refine ⟨_, rfl, _, rfl, _, _, rfl, rfl, _, rfl, ite2 (fun g2 => ?_) (fun g2 => ?_)⟩
      · exact ⟨_, rfl, q _ _ (Int.le_refl _) (.inr rfl) B1 S1⟩
      · have g2' : lo ≤ hi := by
          have := of_decide_eq_false (Bool.not_eq_true _ ▸ g2 : decide (hi < lo) = false)
          omega
        refine ⟨_, rfl, rfl, _, rfl, ite2 (fun g3 => ?_) (fun g3 => ?_)⟩
        · exact ⟨_, rfl, q _ _ g2' (.inl (Int.le_refl _)) B1 S1⟩
        · refine ⟨_, rfl, _, rfl, _, rfl, _, rfl, _, _, rfl, rfl, _, _, rfl, rfl, a, ca, _, rfl, S1, by show hi - lo + 1 < _; omega, fun e H2 e0 e1 B2 S2 => ?_⟩
          have e1' : e < hi - lo + 1 ∨ e = 0 := e1
          exact ⟨_, _, rfl, rfl, q _ _ (by omega) (by omega) (B1.trans B2) S2⟩

def sp_sameR (rel : Hp → V → V → Prop) : Sp := fun vs H Q _ => ∃ x y : V, vs = [x, y] ∧ rel H x y ∧ Q (.bl true) H
theorem same_bit {x : V} {Q : VK} {H : Hp} (q : Q (.bl true) H) : Q (.bl (decide (x = x))) H := by
  rw [decide_eq_true rfl]
  exact q
theorem same_step {rel : Hp → V → V → Prop} {j : Nat} (T : Txt K mg base) (G : FnOk P w K mg base CX0 j T.f_same T.fd_same ["actual", "expected"] (sp_sameR rel)) :
    FnOk P w K mg base CX0 (j + 1) T.f_same T.fd_same ["actual", "expected"] (sp_sameR (SameR rel)) := by
  refine T.F_same.ok sc_same (fun vs H Q E h => ?_) (fun cdv A outer s H vs Q E hr h => ?_)
  · obtain ⟨x, y, rfl, _⟩ := h
    rfl
  · obtain ⟨x, y, rfl, h, q⟩ := h
    refine ⟨_, (pss_cons (ps_if (pt_cmpR op_isN (pv 1) pe_non (nomark _)) (pss_one (ps_ret (pe_cmpR op_isN (pv 0) pe_non (nomark _)))) pss_nil)
      (pss_cons (ps_if (pt_val (pe_callB call_isi (by rfl) T.z_isinstance (by decide +kernel) (pa_cons (pv 1) (pa_cons (pe_bltn (v := .ty "bool") (by rfl) T.z_bool (by decide +kernel) rfl) pa_nil)))) (pss_one (ps_ret (pe_and (pe_callB call_isi (by rfl) T.z_isinstance (by decide +kernel) (pa_cons (pv 0) (pa_cons (pe_bltn (v := .ty "bool") (by rfl) T.z_bool (by decide +kernel) rfl) pa_nil))) (pe_one (pe_cmpR op_eq (pv 0) (pv 1) (nomark _)))))) pss_nil)
      (pss_cons (ps_if (pt_val (pe_callB call_isi (by rfl) T.z_isinstance (by decide +kernel) (pa_cons (pv 1) (pa_cons (pe_bltn (v := .ty "int") (by rfl) T.z_int (by decide +kernel) rfl) pa_nil)))) (pss_one (ps_ret (pe_and (pe_callB call_isi (by rfl) T.z_isinstance (by decide +kernel) (pa_cons (pv 0) (pa_cons (pe_bltn (v := .ty "int") (by rfl) T.z_int (by decide +kernel) rfl) pa_nil))) (pe_and (pe_not (pe_callB call_isi (by rfl) T.z_isinstance (by decide +kernel) (pa_cons (pv 0) (pa_cons (pe_bltn (v := .ty "bool") (by rfl) T.z_bool (by decide +kernel) rfl) pa_nil)))) (pe_one (pe_cmpR op_eq (pv 0) (pv 1) (nomark _))))))) pss_nil)
      (pss_cons (ps_if (pt_val (pe_callB call_isi (by rfl) T.z_isinstance (by decide +kernel) (pa_cons (pv 1) (pa_cons (pe_bltn (v := .ty "str") (by rfl) T.z_str (by decide +kernel) rfl) pa_nil)))) (pss_one (ps_ret (pe_and (pe_callB call_isi (by rfl) T.z_isinstance (by decide +kernel) (pa_cons (pv 0) (pa_cons (pe_bltn (v := .ty "str") (by rfl) T.z_str (by decide +kernel) rfl) pa_nil))) (pe_one (pe_cmpR op_eq (pv 0) (pv 1) (nomark _)))))) pss_nil)
      (pss_cons (ps_if (pt_val (pe_callB call_isi (by rfl) T.z_isinstance (by decide +kernel) (pa_cons (pv 1) (pa_cons (pe_bltn (v := .ty "tuple") (by rfl) T.z_tuple (by decide +kernel) rfl) pa_nil)))) (pss_one (ps_if (pt_not (pt_val (pe_callB call_isi (by rfl) T.z_isinstance (by decide +kernel) (pa_cons (pv 0) (pa_cons (pe_bltn (v := .ty "tuple") (by rfl) T.z_tuple (by decide +kernel) rfl) pa_nil))))) (pss_one (ps_ret pe_bl)) pss_nil)) (pss_one (ps_if (PW.pt (pw_or (pt_not (pt_val (pe_callB call_isi (by rfl) T.z_isinstance (by decide +kernel) (pa_cons (pv 0) (pa_cons (pe_bltn (v := .ty "list") (by rfl) T.z_list (by decide +kernel) rfl) pa_nil))))) (pw_or1 (pt_not (pt_val (pe_callB call_isi (by rfl) T.z_isinstance (by decide +kernel) (pa_cons (pv 1) (pa_cons (pe_bltn (v := .ty "list") (by rfl) T.z_list (by decide +kernel) rfl) pa_nil)))))))) (pss_one (ps_ret pe_bl)) pss_nil)))
      (pss_cons (ps_if (pt_cmpR op_ne (pe_callB call_len (by rfl) T.z_len PySem.boot_len (pa_cons (pv 0) pa_nil)) (pe_callB call_len (by rfl) T.z_len PySem.boot_len (pa_cons (pv 1) pa_nil)) (nomark _)) (pss_one (ps_ret pe_bl)) pss_nil)
      (pss_cons (ps_for PassesOwn.never rfl (pi_range1 (by rfl) T.z_range (pa_cons (pe_callB call_len (by rfl) T.z_len PySem.boot_len (pa_cons (pv 1) pa_nil)) pa_nil)) (pg_name (i := 2) sc_same.nd rfl (.inl rfl)) (pss_one (ps_if (pt_not (pt_val (pe_call G (hr.mono (by first | decide | exact Nat.le_refl _)) (by rfl) T.g_same T.F_same.kp T.b_same .nil pass0 (pa_cons (pe_ix ix_seq (pv 0) (pv 2) (fun _ _ => rfl)) (pa_cons (pe_ix ix_seq (pv 1) (pv 2) (fun _ _ => rfl)) pa_nil))))) (pss_one (ps_ret pe_bl)) pss_nil)))
      (pss_one (ps_ret pe_bl))))))))), ?_⟩
    rcases h with ⟨rfl, hy⟩ | ⟨p, r, xs, ys, rfl, rfl, ho, hl, hb, hi⟩
    · cases x with
      | non => exact ⟨_, rfl, rfl, _, rfl, iteC rfl ⟨_, rfl, rfl, q⟩⟩
      | bl b => exact ⟨_, rfl, rfl, _, rfl, iteN rfl ⟨_, rfl, _, _, _, _, true, rfl, .ty _, .base (.bl b), kit_ty (by decide +kernel), _, rfl, iteT ⟨_, rfl, _, _, _, _, true, rfl, .ty _, .base (.bl b), kit_ty (by decide +kernel), _, rfl, iteT ⟨_, rfl, _, rfl, rfl, same_bit q⟩⟩⟩⟩
      | int b =>
        refine ⟨_, rfl, rfl, _, rfl, iteN rfl ⟨_, rfl, _, _, _, _, false, rfl, .ty _, .base (.int b), kit_ty (by decide +kernel), _, rfl, iteF ?_⟩⟩
        refine ⟨_, rfl, _, _, _, _, true, rfl, .ty _, .base (.int b), kit_ty (by decide +kernel), _, rfl, iteT ?_⟩
        exact ⟨_, rfl, _, _, _, _, true, rfl, .ty _, .base (.int b), kit_ty (by decide +kernel), _, rfl, iteT ⟨_, rfl, _, _, _, _, false, rfl, .ty _, .base (.int b), kit_ty (by decide +kernel), _, rfl, _, rfl, iteT ⟨_, rfl, _, rfl, rfl, same_bit q⟩⟩⟩
      | str b =>
        refine ⟨_, rfl, rfl, _, rfl, iteN rfl ⟨_, rfl, _, _, _, _, false, rfl, .ty _, .base (.str b), kit_ty (by decide +kernel), _, rfl, iteF ?_⟩⟩
        refine ⟨_, rfl, _, _, _, _, false, rfl, .ty _, .base (.str b), kit_ty (by decide +kernel), _, rfl, iteF ?_⟩
        refine ⟨_, rfl, _, _, _, _, true, rfl, .ty _, .base (.str b), kit_ty (by decide +kernel), _, rfl, iteT ?_⟩
        exact ⟨_, rfl, _, _, _, _, true, rfl, .ty _, .base (.str b), kit_ty (by decide +kernel), _, rfl, iteT ⟨_, rfl, _, rfl, rfl, same_bit q⟩⟩
      | byt b => cases hy
      | flt b => cases hy
      | ref b => cases hy
      | ty b => cases hy
    · refine ⟨_, rfl, rfl, _, rfl, iteN rfl ?_⟩
      rcases ho with ⟨o1, o2⟩ | ⟨o1, o2⟩
      · refine ⟨_, rfl, _, _, _, _, false, rfl, .ty _, .base (.tup o2), kit_ty (by decide +kernel), _, rfl, iteF ?_⟩
        refine ⟨_, rfl, _, _, _, _, false, rfl, .ty _, .base (.tup o2), kit_ty (by decide +kernel), _, rfl, iteF ?_⟩
        refine ⟨_, rfl, _, _, _, _, false, rfl, .ty _, .base (.tup o2), kit_ty (by decide +kernel), _, rfl, iteF ?_⟩
        refine ⟨_, rfl, _, _, _, _, true, rfl, .ty _, .base (.tup o2), kit_ty (by decide +kernel), _, rfl, iteT ?_⟩
        refine ⟨_, rfl, _, _, _, _, true, rfl, .ty _, .base (.tup o1), kit_ty (by decide +kernel), _, rfl, iteF ?_⟩
        refine ⟨_, rfl, _, _, rfl, .inr ⟨_, .inl (.inl o1), rfl⟩, _, rfl, _, _, rfl, .inr ⟨_, .inl (.inl o2), rfl⟩, rfl, _, rfl, iteN (by rw [hl]; simp) ?_⟩
        refine ⟨_, rfl, _, _, rfl, .inr ⟨_, .inl (.inl o2), rfl⟩, (ys.length : Int), rfl, by omega, by omega, ?_⟩
        refine for_range (lo := 0) (n := (ys.length : Int).toNat) (fun i σ H' => ∃ z : Option V, σ = [some (.ref p), some (.ref r), z] ∧ H' = H) ⟨none, rfl, rfl⟩ ?_ ?_
        · rintro i σ H' hn ⟨z, rfl, rfl⟩
          have hn' : i < ys.length := hn
          have hx : xs[i]? = some xs[i] := List.getElem?_eq_getElem (by omega)
          have hy : ys[i]? = some ys[i] := List.getElem?_eq_getElem hn'
          refine ⟨_, rfl, _, rfl, .inr (.inl ⟨_, _, _, _, rfl, rfl, .inl (.inl o1), (by rw [Int.zero_add]; exact atI_nat hx), _, rfl, _, rfl, .inr (.inl ⟨_, _, _, _, rfl, rfl, .inl (.inl o2), (by rw [Int.zero_add]; exact atI_nat hy), _, _, rfl, hi i _ _ hx hy, _, rfl, iteN rfl ⟨_, rfl, rfl⟩⟩)⟩)⟩
        · rintro σ H' ⟨z, rfl, rfl⟩
          exact q
      · refine ⟨_, rfl, _, _, _, _, false, rfl, .ty _, .base (.lst o2), kit_ty (by decide +kernel), _, rfl, iteF ?_⟩
        refine ⟨_, rfl, _, _, _, _, false, rfl, .ty _, .base (.lst o2), kit_ty (by decide +kernel), _, rfl, iteF ?_⟩
        refine ⟨_, rfl, _, _, _, _, false, rfl, .ty _, .base (.lst o2), kit_ty (by decide +kernel), _, rfl, iteF ?_⟩
        refine ⟨_, rfl, _, _, _, _, false, rfl, .ty _, .base (.lst o2), kit_ty (by decide +kernel), _, rfl, iteF ?_⟩
        refine ⟨_, rfl, _, _, _, _, true, rfl, .ty _, .base (.lst o1), kit_ty (by decide +kernel), _, rfl, iteN rfl ⟨_, rfl, _, _, _, _, true, rfl, .ty _, .base (.lst o2), kit_ty (by decide +kernel), _, rfl, iteN rfl ?_⟩⟩
        refine ⟨_, rfl, _, _, rfl, .inl ⟨_, .inl (.inl o1), rfl⟩, _, rfl, _, _, rfl, .inl ⟨_, .inl (.inl o2), rfl⟩, rfl, _, rfl, iteN (by rw [hl]; simp) ?_⟩
        refine ⟨_, rfl, _, _, rfl, .inl ⟨_, .inl (.inl o2), rfl⟩, (ys.length : Int), rfl, by omega, by omega, ?_⟩
        refine for_range (lo := 0) (n := (ys.length : Int).toNat) (fun i σ H' => ∃ z : Option V, σ = [some (.ref p), some (.ref r), z] ∧ H' = H) ⟨none, rfl, rfl⟩ ?_ ?_
        · rintro i σ H' hn ⟨z, rfl, rfl⟩
          have hn' : i < ys.length := hn
          have hx : xs[i]? = some xs[i] := List.getElem?_eq_getElem (by omega)
          have hy : ys[i]? = some ys[i] := List.getElem?_eq_getElem hn'
          refine ⟨_, rfl, _, rfl, .inl ⟨_, _, _, _, rfl, rfl, .inl (.inl o1), (by rw [Int.zero_add]; exact atI_nat hx), _, rfl, _, rfl, .inl ⟨_, _, _, _, rfl, rfl, .inl (.inl o2), (by rw [Int.zero_add]; exact atI_nat hy), _, _, rfl, hi i _ _ hx hy, _, rfl, iteN rfl ⟨_, rfl, rfl⟩⟩⟩⟩
        · rintro σ H' ⟨z, rfl, rfl⟩
          exact q
/-- no promise at all -/
theorem fnOk_none {f : Addr} {fd : FuncData} {ps : List Str} {k : Nat} : FnOk P w K mg base CX0 k f fd ps (sp_sameR fun _ _ _ => False) :=
  ⟨fun vs H Q E h => by obtain ⟨_, _, _, h, _⟩ := h; exact h.elim, fun A outer s H args us vs Q E _ _ _ _ h => by obtain ⟨_, _, _, h, _⟩ := h; exact h.elim⟩
theorem ok_sameN (T : Txt K mg base) : ∀ n : Nat, FnOk P w K mg base CX0 (n + 1) T.f_same T.fd_same ["actual", "expected"] (sp_sameR (SameD n))
  | 0 => same_step T fnOk_none
  | n + 1 => same_step T (ok_sameN T n)
theorem ok_same (T : Txt K mg base) : FnOk P w K mg base CX0 5 T.f_same T.fd_same ["actual", "expected"] (sp_sameR (SameD 4)) := ok_sameN T 4

theorem lcp_at {x y : List Nat} {k : Nat} (ht : x.take k = y.take k) (hk : k ≤ x.length) (hl : k ≤ y.length)
    (h : (x.drop k).take 1 ≠ (y.drop k).take 1 ∨ x.length ≤ k ∨ y.length ≤ k) : lcp x y = k := by
  induction k generalizing x y with
  | zero =>
    cases x with
    | nil => rfl
    | cons a x =>
      cases y with
      | nil => rfl
      | cons b y =>
        unfold lcp
        rcases h with h | h | h
        · rw [if_neg]
          intro e
          subst e
          exact h rfl
        · cases h
        · cases h
  | succ k ih =>
    cases x with
    | nil => cases hk
    | cons a x =>
      cases y with
      | nil => cases hl
      | cons b y =>
        rw [List.take_succ_cons, List.take_succ_cons] at ht
        have e := (List.cons.inj ht)
        unfold lcp
        rw [if_pos e.1, ih e.2 (Nat.le_of_succ_le_succ hk) (Nat.le_of_succ_le_succ hl)]
        rcases h with h | h | h
        · exact .inl h
        · exact .inr (.inl (Nat.le_of_succ_le_succ h))
        · exact .inr (.inr (Nat.le_of_succ_le_succ h))
theorem cs_mid (z : Str) (k n : Nat) (h : k + n ≤ z.length) : cs (cutS z (some (k : Int)) (some ((k : Int) + (n : Int)))) = ((cs z).drop k).take n := by
  have e : (k : Int) + (n : Int) = ((k + n : Nat) : Int) := by omega
  rw [e, cs_cut, HT.sIx_nat, HT.sIx_nat, Nat.min_eq_left h, Nat.min_eq_left (by omega)]
  congr 1
  omega
theorem take_more {x y : List Nat} {k n : Nat} (ht : x.take k = y.take k) (h : (x.drop k).take n = (y.drop k).take n) : x.take (k + n) = y.take (k + n) := by
  rw [List.take_add, List.take_add, ht, h]
def sp_shared_length (_ : PySem.W.Frag) : Sp := fun vs H Q _ => ∃ x y : Str, vs = [.str x, .str y] ∧ x.length ≤ 1000000 ∧ y.length ≤ 1000000 ∧ ∀ H', Same H H' → Q (.int (lcp (cs x) (cs y) : Nat)) H'
theorem ok_shared_length (T : Txt K mg base) : FnOk P w K mg base CX0 (0 + 1) T.f_shared_length T.fd_shared_length ["first", "second"] (sp_shared_length K) := by
  refine T.F_shared_length.ok sc_shared_length (fun vs H Q E h => ?_) (fun cdv A outer s H vs Q E hr h => ?_)
  · obtain ⟨x, y, rfl, _⟩ := h
    rfl
  · obtain ⟨x, y, rfl, hx, hy, q⟩ := h
    refine ⟨_, (pss_cons (ps_set (i := 2) sc_shared_length.nd rfl (.inl rfl) (pe_callB (call_min2 rfl) (by rfl) T.z_min (by decide +kernel) (pa_cons (pe_callB call_len_str (by rfl) T.z_len PySem.boot_len (pa_cons (pv 0) pa_nil)) (pa_cons (pe_callB call_len_str (by rfl) T.z_len PySem.boot_len (pa_cons (pv 1) pa_nil)) pa_nil))))
      (pss_cons (ps_set (i := 3) sc_shared_length.nd rfl (.inl rfl) pe_int)
      (pss_cons (ps_set (i := 4) sc_shared_length.nd rfl (.inl rfl) pe_int)
      (pss_cons (ps_while PassesOwn.never (pt_cmpR op_gt (pv 4) pe_int (nomark _)) (pss_one (ps_if (PW.pt (pw_and (pt_cmpR op_le (pe_op op_add (pv 3) (pv 4)) (pv 2) (nomark _)) (pw_and1 (pt_cmpR op_eq (pe_slice sl_str (pv 0) (po_some (pv 3)) (po_some (pe_op op_add (pv 3) (pv 4)))) (pe_slice sl_str (pv 1) (po_some (pv 3)) (po_some (pe_op op_add (pv 3) (pv 4)))) (nomark _))))) (pss_cons (ps_set (i := 3) sc_shared_length.nd rfl (.inl rfl) (pe_op op_add (pv 3) (pv 4)))
      (pss_one (ps_aug (i := 4) sc_shared_length.nd rfl (.inl rfl) pe_int (pip_of iop_mul)))) (pss_one (ps_set (i := 4) sc_shared_length.nd rfl (.inl rfl) (pe_op op_fdiv (pv 4) pe_int))))))
      (pss_one (ps_ret (pv 3))))))), ?_⟩
    have ex : (cs x).length = x.length := cs_len x
    have ey : (cs y).length = y.length := cs_len y
    refine ⟨_, rfl, x, rfl, small_text hx, _, rfl, y, rfl, small_text hy, _, _, rfl, ?_⟩
    have em : (if (y.length : Int) < (x.length : Int) then (y.length : Int) else (x.length : Int)) = ((min x.length y.length : Nat) : Int) := by
      by_cases g : (y.length : Int) < (x.length : Int)
      · rw [if_pos g]
        omega
      · rw [if_neg g]
        omega
    rw [em]
    refine while_by (fun σ H' => ∃ sh sz : Nat, σ = [some (.str x), some (.str y), some (.int ((min x.length y.length : Nat) : Int)), some (.int (sh : Int)), some (.int (sz : Int))] ∧ sh ≤ min x.length y.length ∧ sz ≤ sh + 1 ∧ (cs x).take sh = (cs y).take sh ∧ (sz = 0 → lcp (cs x) (cs y) = sh) ∧ H' = H)
      (fun σ _ => match σ with | [_, _, _, some (.int sh), some (.int sz)] => (3 * min x.length y.length + sz.toNat) - 3 * sh.toNat | _ => 0) ⟨0, 1, rfl, Nat.zero_le _, by omega, rfl, fun e => by omega, rfl⟩ ?_ ?_
    · rintro σ H' ⟨sh, sz, rfl, h1, h2, h3, h4, rfl⟩
      refine ⟨_, rfl, _, _, rfl, rfl, _, rfl, ite2 (fun g => ?_) (fun g => ?_)⟩
      · have g1 : 1 ≤ sz := by
          have := of_decide_eq_true g
          omega
        have lp : sz = 1 → (x.length ≤ sh ∨ y.length ≤ sh ∨ ((cs x).drop sh).take 1 ≠ ((cs y).drop sh).take 1) → lcp (cs x) (cs y) = sh := fun _ d => by
          refine lcp_at h3 (by omega) (by omega) ?_
          rcases d with d | d | d
          · exact .inr (.inl (by omega))
          · exact .inr (.inr (by omega))
          · exact .inl d
        have half : ∀ (r : sz = 1 → (x.length ≤ sh ∨ y.length ≤ sh ∨ ((cs x).drop sh).take 1 ≠ ((cs y).drop sh).take 1)), sz / 2 = 0 → lcp (cs x) (cs y) = sh := fun r e => lp (by omega) (r (by omega))
        refine ⟨_, rfl, _, rfl, _, _, rfl, rfl, _, rfl, _, _, rfl, rfl, _, rfl, ite2 (fun e => ?_) (fun e => ?_)⟩
        · have fit : sh + sz ≤ min x.length y.length := by
            have := of_decide_eq_true e
            omega
          refine ⟨_, rfl, _, rfl, _, rfl, _, rfl, _, rfl, _, _, rfl, rfl, _, rfl, x, rfl, small_text hx, _, rfl, _, rfl, _, rfl, _, rfl, _, rfl, _, _, rfl, rfl, _, rfl, y, rfl, small_text hy, rfl, _, rfl, ?_⟩
          have px : cs (cutS x (some (sh : Int)) (some ((sh : Int) + (sz : Int)))) = ((cs x).drop sh).take sz := cs_mid x sh sz (by omega)
          have py : cs (cutS y (some (sh : Int)) (some ((sh : Int) + (sz : Int)))) = ((cs y).drop sh).take sz := cs_mid y sh sz (by omega)
          refine ite2 (fun d => ?_) (fun d => ?_)
          · have d' := congrArg (fun v => match v with | V.str z => cs z | _ => []) (of_decide_eq_true d)
            have d2 : ((cs x).drop sh).take sz = ((cs y).drop sh).take sz := px.symm.trans (Eq.trans d' py)
            refine ⟨_, rfl, _, rfl, _, _, rfl, rfl, _, rfl, _, _, rfl, rfl, .inr ⟨by decide, by decide⟩, ⟨sh + sz, sz * 2, rfl, fit, by omega, take_more h3 d2, fun z => by omega, rfl⟩, ?_⟩
            show 3 * min x.length y.length + (sz * 2) - 3 * (sh + sz) < 3 * min x.length y.length + sz - 3 * sh
            omega
          · refine ⟨_, rfl, _, _, rfl, rfl, ⟨by decide, by decide⟩, ⟨sh, sz / 2, rfl, h1, by omega, h3, half fun s1 => .inr (.inr fun z => d ?_), rfl⟩, ?_⟩
            · subst s1
              exact decide_eq_true (congrArg V.str (cs_ext (px.trans (z.trans py.symm))))
            · show 3 * min x.length y.length + (sz / 2) - 3 * sh < 3 * min x.length y.length + sz - 3 * sh
              omega
        · have big : min x.length y.length < sh + sz := by
            have : ¬ ((sh : Int) + (sz : Int) ≤ ((min x.length y.length : Nat) : Int)) := fun z => e (decide_eq_true z)
            omega
          refine iteF ?_
          refine ⟨_, rfl, _, _, rfl, rfl, ⟨by decide, by decide⟩, ⟨sh, sz / 2, rfl, h1, by omega, h3, half fun s1 => ?_, rfl⟩, ?_⟩
          · subst s1
            by_cases c : x.length ≤ sh
            · exact .inl c
            · exact .inr (.inl (by omega))
          · show 3 * min x.length y.length + (sz / 2) - 3 * sh < 3 * min x.length y.length + sz - 3 * sh
            omega
      · have g1 : sz = 0 := by
          have : ¬ ((0 : Int) < (sz : Int)) := fun z => g (decide_eq_true z)
          omega
        have q' := q H' (Same.refl _)
        rw [h4 g1] at q'
        exact ⟨_, rfl, q'⟩
    · rintro σ H' Q1 Q2 imp ⟨v, e, i, j, e1, e2, k, ek, h⟩
      exact ⟨v, e, i, j, e1, e2, k, ek, imp _ _ h⟩

def sp_common (_ : PySem.W.Frag) : Sp := fun vs H Q _ => ∃ (l : Addr) (ws : List Str), vs = [.ref l] ∧ H l = some (.lst (ws.map V.str)) ∧ (∀ x ∈ ws, x.length ≤ 1000000) ∧ (ws = [] → Q .non H) ∧
  (ws ≠ [] → ∀ (f : Str) (H' : Hp), IsCommon (ws.map cs) (cs f) → f.length ≤ 1000000 → Same H H' → Q (.str f) H')
theorem ok_common (T : Txt K mg base) : FnOk P w K mg base CX0 (1 + 1) T.f_common T.fd_common ["words"] (sp_common K) := by
  refine T.F_common.ok sc_common (fun vs H Q E h => ?_) (fun cdv A outer s H vs Q E hr h => ?_)
  · obtain ⟨l, ws, rfl, _⟩ := h
    rfl
  · obtain ⟨l, ws, rfl, hl, hb, q0, q1⟩ := h
    refine ⟨_, (pss_cons (ps_if (pt_not (pt_truth (pv 0) (by intro _; rfl))) (pss_one (ps_ret pe_non)) pss_nil)
      (pss_cons (ps_set (i := 1) sc_common.nd rfl (.inl rfl) (pe_callB (cr_minS rfl hr.units) (by rfl) T.z_min (by decide +kernel) (pa_cons (pv 0) pa_nil)))
      (pss_cons (ps_set (i := 2) sc_common.nd rfl (.inl rfl) (pe_callB (cr_maxS rfl hr.units) (by rfl) T.z_max (by decide +kernel) (pa_cons (pv 0) pa_nil)))
      (pss_one (ps_ret (pe_slice sl_str (pv 1) po_none (po_some (pe_call (ok_shared_length T) (hr.mono (by first | decide | exact Nat.le_refl _)) (by rfl) T.g_shared_length T.F_shared_length.kp T.b_shared_length .nil pass0 (pa_cons (pv 1) (pa_cons (pv 2) pa_nil)))))))))), ?_⟩
    refine ⟨_, rfl, _, .inl ⟨_, .inl (.inl hl), rfl⟩, ?_⟩
    cases ws with
    | nil => exact iteC rfl (q0 rfl)
    | cons x xs =>
      refine iteN rfl ?_
      refine ⟨_, rfl, l, x, xs, rfl, .inl (.inl hl), _, rfl, l, x, xs, rfl, .inl (.inl hl), ?_⟩
      have b1 := hb _ (minOf_spec x xs).1
      refine ⟨_, rfl, _, rfl, _, rfl, _, _, rfl, b1, hb _ (maxOf_spec x xs).1, fun H1 sm => ⟨_, rfl, _, rfl, small_text b1, ?_⟩⟩
      refine q1 (by simp) _ _ ?_ (Nat.le_trans (cut_len _ _ _) b1) sm
      rw [cs_upto]
      exact common_ok x xs

def signAt (f w : Str) : Str := cutS w (some (f.length : Int)) (some ((f.length : Int) + 1))
theorem cs_signAt (f w : Str) : cs (signAt f w) = ((cs w).drop f.length).take 1 := by
  unfold signAt
  have e : (f.length : Int) + 1 = ((f.length + 1 : Nat) : Int) := rfl
  have lw := cs_len w
  rw [cs_cut, e, HT.sIx_nat, HT.sIx_nat]
  by_cases h : f.length < w.length
  · rw [Nat.min_eq_left (by omega), Nat.min_eq_left (by omega), Nat.add_sub_cancel_left]
  · rw [Nat.min_eq_right (by omega), Nat.min_eq_right (by omega), Nat.sub_self, List.take_zero, List.drop_eq_nil_of_le (by omega)]
    rfl
theorem take1_head {a b : List Nat} (h : a.take 1 = b.take 1) : a.head? = b.head? := by
  cases a <;> cases b <;> simp_all
theorem eqV_str (a : Str) : eqV (.str a) (.str a) = true := by
  simp [eqV]
def sp_common_asked (_ : PySem.W.Frag) : Sp := fun vs H Q _ => ∃ (l : Addr) (ws : List Str), vs = [.ref l] ∧ H l = some (.lst (ws.map V.str)) ∧ (∀ x ∈ ws, x.length ≤ 1000000) ∧ ws.length ≤ 1000 ∧ ∀ H', Same H H' → Q (.bl true) H'
theorem same_strs {H : Hp} {n : Nat} {p r : Addr} {ws : List Str} (h1 : H p = some (.lst (ws.map V.str))) (h2 : H r = some (.lst (ws.map V.str))) (hl : ws.length ≤ 1000000) : SameD (n + 1) H (.ref p) (.ref r) := by
  refine .inr ⟨p, r, _, _, rfl, rfl, .inr ⟨h1, h2⟩, rfl, by rw [List.length_map]; exact hl, fun i x' y' hx hy => ?_⟩
  rw [hx] at hy
  have e := Option.some.inj hy
  subst e
  rw [List.getElem?_map] at hx
  cases hw : ws[i]? with
  | none =>
    rw [hw] at hx
    cases hx
  | some w =>
    rw [hw] at hx
    have e : V.str w = x' := Option.some.inj hx
    subst e
    cases n <;> exact .inl ⟨rfl, rfl⟩
theorem ok_common_asked (T : Txt K mg base) : FnOk P w K mg base CX0 (5 + 1) T.f_common_asked T.fd_common_asked ["words"] (sp_common_asked K) := by
  refine T.F_common_asked.ok sc_common_asked (fun vs H Q E h => ?_) (fun cdv A outer s H vs Q E hr h => ?_)
  · obtain ⟨l, ws, rfl, _⟩ := h
    rfl
  · obtain ⟨l, ws, rfl, hl, hb, hn, q⟩ := h
    refine ⟨_, (pss_cons (ps_set (i := 1) sc_common_asked.nd rfl (.inl rfl) (pe_callTy call_list_of (by rfl) T.z_list (by decide +kernel) (pa_cons (pv 0) pa_nil)))
      (pss_cons (ps_set (i := 2) sc_common_asked.nd rfl (.inl rfl) (pe_call (ok_common T) (hr.mono (by first | decide | exact Nat.le_refl _)) (by rfl) T.g_common T.F_common.kp T.b_common .nil pass0 (pa_cons (pv 0) pa_nil)))
      (pss_cons (ps_if (PW.pt (pw_or (pt_not (pt_val (pe_call (ok_same T) (hr.mono (by first | decide | exact Nat.le_refl _)) (by rfl) T.g_same T.F_same.kp T.b_same .nil pass0 (pa_cons (pv 0) (pa_cons (pv 1) pa_nil))))) (pw_or1 (pt_not (pt_val (pe_call (ok_same T) (hr.mono (by first | decide | exact Nat.le_refl _)) (by rfl) T.g_same T.F_same.kp T.b_same .nil pass0 (pa_cons (pe_call (ok_common T) (hr.mono (by first | decide | exact Nat.le_refl _)) (by rfl) T.g_common T.F_common.kp T.b_common .nil pass0 (pa_cons (pv 0) pa_nil)) (pa_cons (pv 2) pa_nil)))))))) (pss_one (ps_ret pe_bl)) pss_nil)
      (pss_cons (ps_if (pt_not (pt_truth (pv 1) (by intro _; rfl))) (pss_one (ps_ret (pe_cmpR op_isN (pv 2) pe_non (nomark _)))) pss_nil)
      (pss_cons (ps_if (pt_not (pt_val (pe_callB call_isi (by rfl) T.z_isinstance (by decide +kernel) (pa_cons (pv 2) (pa_cons (pe_bltn (v := .ty "str") (by rfl) T.z_str (by decide +kernel) rfl) pa_nil))))) (pss_one (ps_ret pe_bl)) pss_nil)
      (pss_cons (ps_set (i := 3) sc_common_asked.nd rfl (.inr rfl) (pe_lst pa_nil))
      (pss_cons (ps_for PassesOwn.never rfl (pi_list (pv 1)) (pg_name (i := 4) sc_common_asked.nd rfl (.inl rfl)) (pss_cons (ps_if (pt_cmpR op_ne (pe_slice sl_str (pv 4) po_none (po_some (pe_callB call_len_str (by rfl) T.z_len PySem.boot_len (pa_cons (pv 2) pa_nil)))) (pv 2) (nomark _)) (pss_one (ps_ret pe_bl)) pss_nil)
      (pss_one (ps_expr (pe_bm PySem.F.plainAttrs_list PySem.F.slot_list_append PySem.F.type_list_append mt_append (pv 3) (pa_cons (pe_slice sl_str (pv 4) (po_some (pe_callB call_len_str (by rfl) T.z_len PySem.boot_len (pa_cons (pv 2) pa_nil))) (po_some (pe_op op_add (pe_callB call_len_str (by rfl) T.z_len PySem.boot_len (pa_cons (pv 2) pa_nil)) pe_int))) pa_nil))))))
      (pss_one (ps_ret (pe_or (pe_cmpR op_in_seq pe_str (pv 3) rfl) (pe_one (pe_cmpR op_gt (pe_callB call_len_seq (by rfl) T.z_len PySem.boot_len (pa_cons (pe_lc (own := [("x", 5)]) (g := gName 5) rfl sc_common_asked.nd (pi_list (pv 3)) (blkOk_by (N := ["words", "kept", "front", "signs", "word", "x"]) (sc := defScope s_common_asked) (by decide +kernel)) (fun _ _ _ _ _ => pg_name (i := 5) sc_common_asked.nd rfl (Or.inl rfl)) (fun _ _ _ _ _ => (pts_one (pt_cmpR op_ne (pv 5) (pe_ix (ix_listK K rfl) (pv 3) pe_int (fun _ _ => rfl)) (nomark _)))) (fun _ _ _ _ _ => (pv 5))) pa_nil)) pe_int (nomark _))))))))))))), ?_⟩
    refine ⟨_, rfl, l, _, rfl, .inl (.inl (.inl hl)), fun k nk => ?_⟩
    have s1 : Same H (upd H k (.lst (ws.map V.str))) := same_new nk
    have hk1 : (upd H k (.lst (ws.map V.str))) k = some (.lst (ws.map V.str)) := upd_same
    cases ws with
    | nil =>
      refine ⟨_, rfl, l, [], rfl, s1 _ _ hl, fun x m => absurd m List.not_mem_nil, fun _ => ?_, fun n => absurd rfl n⟩
      refine ⟨_, rfl, _, rfl, _, _, rfl, same_strs (ws := []) (s1 _ _ hl) hk1 (by decide), _, rfl, iteF ?_⟩
      refine ⟨_, rfl, l, [], rfl, s1 _ _ hl, fun x m => absurd m List.not_mem_nil, fun _ => ?_, fun n => absurd rfl n⟩
      refine ⟨_, rfl, _, _, rfl, .inl ⟨rfl, rfl⟩, _, rfl, iteN rfl ?_⟩
      exact ⟨_, rfl, _, .inl ⟨_, .inl (.inl hk1), rfl⟩, iteC rfl ⟨_, rfl, rfl, q _ s1⟩⟩
    | cons w0 wr =>
      refine ⟨_, rfl, l, w0 :: wr, rfl, s1 _ _ hl, hb, (fun e => by cases e), fun _ f H2 hf fl sm2 => ?_⟩
      have hk2 := sm2 _ _ hk1
      have hl2 := sm2 _ _ (s1 _ _ hl)
      refine ⟨_, rfl, _, rfl, _, _, rfl, same_strs hl2 hk2 (by omega), _, rfl, iteF ?_⟩
      refine ⟨_, rfl, l, w0 :: wr, rfl, hl2, hb, (fun e => by cases e), fun _ f' H3 hf' _ sm3 => ?_⟩
      have e := cs_ext (hf'.uniq hf)
      subst e
      refine ⟨_, rfl, _, _, rfl, .inl ⟨rfl, rfl⟩, _, rfl, iteN rfl ?_⟩
      have hk3 := sm3 _ _ hk2
      refine ⟨_, rfl, _, .inl ⟨_, .inl (.inl hk3), rfl⟩, iteN rfl ?_⟩
      refine ⟨_, rfl, _, _, _, _, true, rfl, .ty _, .base (.str f'), kit_ty (by decide +kernel), _, rfl, iteN rfl ?_⟩
      refine ⟨Nat.zero_le _, fun g ng => ?_⟩
      have ngk : g ≠ k := fun e => by
        rw [e, hk3] at ng
        cases ng
      have sx : f'.length ≤ sizeLine := small_text fl
      have s3 : Same H H3 := (s1.trans sm2).trans sm3
      have al : ∀ y ∈ (w0 :: wr), cutS y none (some (f'.length : Int)) = f' := fun y hy => by
        obtain ⟨r, e⟩ := hf'.pre (cs y) (List.mem_map_of_mem hy)
        apply cs_ext
        rw [cs_upto, e, ← cs_len, List.take_left]
      refine ⟨_, rfl, k, rfl, ⟨_, .inl (.inl (same_new ng _ _ hk3))⟩, for_list (K := K) (a := k) (xs := (w0 :: wr).map V.str) (fun i σ H' => ∃ yw yx : Option V, σ = [some (.ref l), some (.ref k), some (.str f'), some (.ref g), yw, yx] ∧ Same H H' ∧ H' k = some (.lst ((w0 :: wr).map V.str)) ∧ H' g = some (.lst (((w0 :: wr).take i).map fun y => V.str (signAt f' y)))) ?_ ?_ ?_ ?_⟩
      · exact ⟨none, none, rfl, s3.trans (same_new ng), same_new ng _ _ hk3, upd_same⟩
      · rintro i σ H' _ ⟨yw, yx, rfl, _, h, _⟩
        exact .inl (.inl h)
      · rintro i v σ H4 hi ⟨yw, yx, rfl, sm4, hk4, hg4⟩
        rw [List.getElem?_map] at hi
        cases hy : (w0 :: wr)[i]? with
        | none =>
          rw [hy] at hi
          cases hi
        | some y =>
          rw [hy] at hi
          have e : V.str y = v := Option.some.inj hi
          subst e
          have my : y ∈ (w0 :: wr) := List.mem_of_getElem? hy
          have sy : y.length ≤ sizeLine := small_text (hb y my)
          have li : i < (w0 :: wr).length := (List.getElem?_eq_some_iff.mp hy).1
          refine ⟨_, rfl, _, rfl, f', rfl, sx, _, rfl, y, rfl, sy, _, rfl, rfl, _, rfl, iteN (by rw [al y my]; simp) ?_⟩
          refine ⟨_, rfl, .inl ⟨rfl, _, .inl (.inl hg4)⟩, _, rfl, _, rfl, f', rfl, sx, _, rfl, _, rfl, f', rfl, sx, _, _, rfl, rfl, _, rfl, y, rfl, sy, g, _, _, rfl, rfl, hg4, ?_, ?_⟩
          · rw [List.length_map, List.length_take]
            exact Nat.lt_of_lt_of_le (by omega : _ < 1000000) (by decide)
          · refine ⟨_, _, rfl, s3.grown ng sm4 hg4, ?_, ?_⟩
            · rw [upd_ne (Ne.symm ngk)]
              exact hk4
            · rw [upd_same, List.take_add_one, hy, List.map_append]
              rfl
      · rintro σ H4 ⟨yw, yx, rfl, sm4, hk4, hg4⟩
        rw [List.length_map, List.take_length] at hg4
        have flat : ((w0 :: wr).map fun y => V.str (signAt f' y)).all flatV = true := by
          rw [List.all_eq_true]
          intro v hv
          obtain ⟨y, _, rfl⟩ := List.mem_map.mp hv
          rfl
        refine ⟨_, rfl, g, _, rfl, .inl (.inl (.inl hg4)), rfl, flat, _, rfl, ite2 (fun _ => q _ sm4) (fun c => ?_)⟩
        have nof : ∀ y ∈ (w0 :: wr), cs y ≠ cs f' := fun y hy e => by
          apply c
          show inV (.str (Str.ofString "")) _ = true
          unfold inV
          rw [List.any_eq_true]
          refine ⟨_, List.mem_map_of_mem hy, ?_⟩
          have : signAt f' y = Str.ofString "" := by
            apply cs_ext
            rw [cs_signAt, e, ← cs_len, List.drop_length, cs_empty]
            rfl
          rw [this]
          exact eqV_str _
        have two : ∃ y ∈ (w0 :: wr), signAt f' y ≠ signAt f' w0 := by
          rcases hf'.most with ⟨u, hu, e⟩ | ⟨u, hu, u', hu', n⟩
          · obtain ⟨y, hy, rfl⟩ := List.mem_map.mp hu
            exact absurd e (nof y hy)
          · obtain ⟨y, hy, rfl⟩ := List.mem_map.mp hu
            obtain ⟨y', hy', rfl⟩ := List.mem_map.mp hu'
            have nn : signAt f' y ≠ signAt f' y' := fun e => by
              have e2 : cs (signAt f' y) = cs (signAt f' y') := by rw [e]
              rw [cs_signAt, cs_signAt, ← cs_len] at e2
              exact n (take1_head e2)
            by_cases e : signAt f' y = signAt f' w0
            · exact ⟨y', hy', fun e2 => nn (e.trans e2.symm)⟩
            · exact ⟨y, hy, e⟩
        refine ⟨_, rfl, g, rfl, ⟨_, .inl (.inl hg4)⟩, fun D hD => ?_⟩
        have nDg : g ≠ D := fun e => by
          rw [← e, hg4] at hD
          cases hD
        refine lc_list (K := K) (a := g) (xs := (w0 :: wr).map fun y => V.str (signAt f' y)) (fun n H' => Same H4 H' ∧ H' D = some (.lst ((((w0 :: wr).take n).filter fun y => !decide (signAt f' y = signAt f' w0)).map fun y => V.str (signAt f' y)))) ⟨same_new hD, upd_same⟩ (fun n H' _ h => .inl (.inl (h.1 _ _ hg4))) ?_ ?_
        · rintro n v H5 hv ⟨h1, h2⟩
          rw [List.getElem?_map] at hv
          cases hy : (w0 :: wr)[n]? with
          | none =>
            rw [hy] at hv
            cases hv
          | some y =>
            rw [hy] at hv
            have e : V.str (signAt f' y) = v := Option.some.inj hv
            subst e
            have li : n < (w0 :: wr).length := (List.getElem?_eq_some_iff.mp hy).1
            refine ⟨rfl, _, rfl, _, rfl, g, _, _, _, rfl, rfl, .inl (.inl (h1 _ _ hg4)), (show atI ((w0 :: wr).map fun y => V.str (signAt f' y)) 0 = some (.str (signAt f' w0)) from atI_nat (j := 0) rfl), rfl, _, rfl, ite2 (fun g6 => ?_) (fun g6 => ?_)⟩
            · have nc : signAt f' y ≠ signAt f' w0 := fun e => by
                rw [e] at g6
                simp at g6
              refine ⟨_, rfl, _, h2, ?_, ?_, ?_⟩
              · rw [List.length_map]
                refine Nat.lt_of_le_of_lt (List.length_filter_le _ _) (Nat.lt_of_le_of_lt (m := 1000000) ?_ (by decide))
                rw [List.length_take]
                omega
              · exact (Same.refl _).grown hD h1 h2
              · rw [upd_same, List.take_add_one, hy, List.filter_append, List.map_append]
                simp [nc]
            · have ec : signAt f' y = signAt f' w0 := by
                by_cases e : signAt f' y = signAt f' w0
                · exact e
                · exfalso
                  apply g6
                  simp [e]
              refine ⟨h1, ?_⟩
              rw [h2, List.take_add_one, hy, List.filter_append]
              simp [ec]
        · rintro H5 ⟨h1, h2⟩
          rw [List.length_map, List.take_length] at h2
          obtain ⟨y, hy, ny⟩ := two
          refine ⟨D, _, rfl, .inl (.inl (.inl h2)), _, _, rfl, rfl, ?_⟩
          have : decide ((0 : Int) < ((((w0 :: wr).filter fun y => !decide (signAt f' y = signAt f' w0)).map fun y => V.str (signAt f' y)).length : Nat)) = true := by
            rw [List.length_map]
            apply decide_eq_true
            have := List.length_pos_of_mem (List.mem_filter.mpr ⟨hy, by simp [ny]⟩ : y ∈ (w0 :: wr).filter fun y => !decide (signAt f' y = signAt f' w0))
            omega
          show Q (.bl (decide ((0 : Int) < ((((w0 :: wr).filter fun y => !decide (signAt f' y = signAt f' w0)).map fun y => V.str (signAt f' y)).length : Nat)))) H5
          rw [this]
          exact q _ (sm4.trans h1)

def sp_is_lag_of (_ : PySem.W.Frag) : Sp := fun vs H Q _ => ∃ (t : Addr) (u v x y : Str), vs = [.ref t, .str x, .str y] ∧ H t = some (.tup [.str u, .str v]) ∧ x.length ≤ 1000000 ∧ y.length ≤ 1000000 ∧
  IsLag (cs x) (cs y) (cs u) (cs v) ∧ Q (.bl true) H
theorem ends_ok {x u : Str} {f : List Nat} (h : cs x = f ++ cs u) : Txt.endswith x u = true := by
  have e : x.length = f.length + u.length := by rw [← cs_len, h, List.length_append, cs_len]
  unfold Txt.endswith
  rw [Bool.and_eq_true]
  refine ⟨decide_eq_true (by omega), ?_⟩
  rw [StrLaws.subAt_eq, beq_iff_eq]
  have e1 : x.length - u.length = f.length := by omega
  show ((cs x).drop (x.length - u.length)).take u.length = cs u
  rw [e1, h, List.drop_left, ← cs_len, List.take_length]
theorem front_ok {x u : Str} {f : List Nat} (h : cs x = f ++ cs u) : cutS x none (some ((x.length : Int) - (u.length : Int))) = ⟨f.toArray⟩ := by
  have e : x.length = f.length + u.length := by rw [← cs_len, h, List.length_append, cs_len]
  have e1 : (x.length : Int) - (u.length : Int) = ((f.length : Nat) : Int) := by omega
  rw [e1]
  apply cs_ext
  rw [cs_upto, h, List.take_left, cs_mk]
theorem ok_is_lag_of (T : Txt K mg base) : FnOk P w K mg base CX0 (0 + 1) T.f_is_lag_of T.fd_is_lag_of ["lag", "one", "two"] (sp_is_lag_of K) := by
  refine T.F_is_lag_of.ok sc_is_lag_of (fun vs H Q E h => ?_) (fun cdv A outer s H vs Q E hr h => ?_)
  · obtain ⟨t, u, v, x, y, rfl, _⟩ := h
    rfl
  · obtain ⟨t, u, v, x, y, rfl, ht, hx, hy, hl, q⟩ := h
    refine ⟨_, (pss_cons (ps_if (PW.pt (pw_or (pt_not (pt_val (pe_callB call_isi (by rfl) T.z_isinstance (by decide +kernel) (pa_cons (pv 0) (pa_cons (pe_bltn (v := .ty "tuple") (by rfl) T.z_tuple (by decide +kernel) rfl) pa_nil))))) (pw_or (pt_cmpR op_ne (pe_callB call_len_seq (by rfl) T.z_len PySem.boot_len (pa_cons (pv 0) pa_nil)) pe_int (nomark _)) (pw_or (pt_not (pt_val (pe_callB call_isi (by rfl) T.z_isinstance (by decide +kernel) (pa_cons (pe_ix ix_tup (pv 0) pe_int (fun _ _ => rfl)) (pa_cons (pe_bltn (v := .ty "str") (by rfl) T.z_str (by decide +kernel) rfl) pa_nil))))) (pw_or1 (pt_not (pt_val (pe_callB call_isi (by rfl) T.z_isinstance (by decide +kernel) (pa_cons (pe_ix ix_tup (pv 0) pe_int (fun _ _ => rfl)) (pa_cons (pe_bltn (v := .ty "str") (by rfl) T.z_str (by decide +kernel) rfl) pa_nil)))))))))) (pss_one (ps_ret pe_bl)) pss_nil)
      (pss_cons (ps_if (PW.pt (pw_or (pt_not (pt_val (pe_m1 PySem.F.slot_str_endswith PySem.F.type_str_endswith mt_endswith (pv 1) (pe_ix ix_tup (pv 0) pe_int (fun _ _ => rfl))))) (pw_or1 (pt_not (pt_val (pe_m1 PySem.F.slot_str_endswith PySem.F.type_str_endswith mt_endswith (pv 2) (pe_ix ix_tup (pv 0) pe_int (fun _ _ => rfl)))))))) (pss_one (ps_ret pe_bl)) pss_nil)
      (pss_cons (ps_if (pt_cmpR op_ne (pe_slice sl_str (pv 1) po_none (po_some (pe_op op_sub (pe_callB call_len_str (by rfl) T.z_len PySem.boot_len (pa_cons (pv 1) pa_nil)) (pe_callB call_len_str (by rfl) T.z_len PySem.boot_len (pa_cons (pe_ix ix_tup (pv 0) pe_int (fun _ _ => rfl)) pa_nil))))) (pe_slice sl_str (pv 2) po_none (po_some (pe_op op_sub (pe_callB call_len_str (by rfl) T.z_len PySem.boot_len (pa_cons (pv 2) pa_nil)) (pe_callB call_len_str (by rfl) T.z_len PySem.boot_len (pa_cons (pe_ix ix_tup (pv 0) pe_int (fun _ _ => rfl)) pa_nil))))) (nomark _)) (pss_one (ps_ret pe_bl)) pss_nil)
      (pss_one (ps_ret (pe_or (pe_cmpR op_eq (pe_ix ix_tup (pv 0) pe_int (fun _ _ => rfl)) pe_str (nomark _)) (pe_or (pe_cmpR op_eq (pe_ix ix_tup (pv 0) pe_int (fun _ _ => rfl)) pe_str (nomark _)) (pe_one (pe_cmpR op_ne (pe_ix ix_str (pe_ix ix_tup (pv 0) pe_int (fun _ _ => rfl)) pe_int (fun _ _ => rfl)) (pe_ix ix_str (pe_ix ix_tup (pv 0) pe_int (fun _ _ => rfl)) pe_int (fun _ _ => rfl)) (nomark _)))))))))), ?_⟩
    obtain ⟨f, e1, e2, e3⟩ := hl
    have lu : u.length ≤ x.length := by rw [← cs_len, ← cs_len, e1, List.length_append]; omega
    have lv : v.length ≤ y.length := by rw [← cs_len, ← cs_len, e2, List.length_append]; omega
    have su : u.length ≤ sizeLine := small_text (by omega)
    have sv : v.length ≤ sizeLine := small_text (by omega)
    have sx : x.length ≤ sizeLine := small_text hx
    have sy : y.length ≤ sizeLine := small_text hy
    have r0 : atI [V.str u, V.str v] 0 = some (.str u) := rfl
    have r1 : atI [V.str u, V.str v] 1 = some (.str v) := rfl
    have g : SqT K H t [V.str u, V.str v] := .inl (.inl ht)
    refine ⟨_, rfl, _, _, _, _, true, rfl, .ty _, .base (.tup ht), kit_ty (by decide +kernel), _, rfl, iteF ?_⟩
    refine ⟨_, rfl, _, _, rfl, .inr g, rfl, _, rfl, iteN (by simp) ?_⟩
    refine ⟨_, rfl, t, _, _, _, rfl, rfl, g, r0, _, _, _, _, true, rfl, .ty _, .base (.str u), kit_ty (by decide +kernel), _, rfl, iteF ?_⟩
    refine ⟨_, rfl, t, _, _, _, rfl, rfl, g, r1, _, _, _, _, true, rfl, .ty _, .base (.str v), kit_ty (by decide +kernel), _, rfl, iteF ?_⟩
    refine ⟨_, rfl, ⟨_, rfl⟩, _, rfl, t, _, _, _, rfl, rfl, g, r0, _, _, rfl, rfl, _, rfl, iteN (by rw [ends_ok e1]; rfl) ?_⟩
    refine ⟨_, rfl, ⟨_, rfl⟩, _, rfl, t, _, _, _, rfl, rfl, g, r1, _, _, rfl, rfl, _, rfl, iteN (by rw [ends_ok e2]; rfl) ?_⟩
    refine ⟨_, rfl, _, rfl, x, rfl, sx, _, rfl, t, _, _, _, rfl, rfl, g, r0, u, rfl, su, _, _, rfl, rfl, _, rfl, x, rfl, sx, ?_⟩
    refine ⟨_, rfl, _, rfl, y, rfl, sy, _, rfl, t, _, _, _, rfl, rfl, g, r1, v, rfl, sv, _, _, rfl, rfl, _, rfl, y, rfl, sy, rfl, _, rfl, iteN (by rw [front_ok e1, front_ok e2]; simp) ?_⟩
    have emp : ∀ z : Str, (V.str z = V.str (Str.ofString "")) ↔ cs z = [] := fun z => ⟨fun e => by injection e with e; rw [e]; exact cs_empty, fun e => congrArg V.str (cs_ext (e.trans cs_empty.symm))⟩
    refine ⟨_, rfl, t, _, _, _, rfl, rfl, g, r0, rfl, _, rfl, ite2 (fun g1 => ?_) (fun g1 => ?_)⟩
    · exact q
    · have n1 : cs u ≠ [] := fun e => g1 (decide_eq_true ((emp u).mpr e))
      refine ⟨_, rfl, t, _, _, _, rfl, rfl, g, r1, rfl, _, rfl, ite2 (fun g2 => ?_) (fun g2 => ?_)⟩
      · exact q
      · have n2 : cs v ≠ [] := fun e => g2 (decide_eq_true ((emp v).mpr e))
        have n3 : (cs u).head? ≠ (cs v).head? := by
          rcases e3 with e | e | e
          · exact absurd e n1
          · exact absurd e n2
          · exact e
        obtain ⟨c, u', eu⟩ := List.exists_cons_of_ne_nil n1
        obtain ⟨d, v', ev⟩ := List.exists_cons_of_ne_nil n2
        have a0 : atI (cs u) 0 = some c := atI_nat (j := 0) (by rw [eu]; rfl)
        have a1 : atI (cs v) 0 = some d := atI_nat (j := 0) (by rw [ev]; rfl)
        have ncd : c ≠ d := fun e => n3 (by rw [eu, ev, e]; rfl)
        refine ⟨_, rfl, t, _, _, _, rfl, rfl, g, r0, u, _, c, rfl, rfl, su, a0, _, rfl, t, _, _, _, rfl, rfl, g, r1, v, _, d, rfl, rfl, sv, a1, rfl, ?_⟩
        have : (!decide (V.str ⟨#[c]⟩ = V.str ⟨#[d]⟩)) = true := by
          simp [ncd]
        rw [this]
        exact q

/-- an alphabet; the store moves on, all else stands -/
def sp_letters (_ : PySem.W.Frag) : Sp := fun vs H Q _ => ∃ (a ca : Addr) (n : Int), vs = [.ref a, .int n] ∧ Sto H a ca ∧
  ∀ (z : Str) (H' : Hp), IsAlpha z → But a H H' → Sto H' a ca → Q (.str z) H'
theorem ok_letters (T : Txt K mg base) : FnOk P w K mg base CX0 (2 + 1) T.f_letters T.fd_letters ["store", "limit"] (sp_letters K) := by
  refine T.F_letters.ok sc_letters (fun vs H Q E h => ?_) (fun cdv A outer s H vs Q E hr h => ?_)
  · obtain ⟨a, ca, n, rfl, _⟩ := h
    rfl
  · obtain ⟨a, ca, n, rfl, S, q⟩ := h
    refine ⟨_, (pss_cons (ps_set (i := 2) sc_letters.nd rfl (.inl rfl) (pe_op op_add pe_int (pe_call (ok_take T) (hr.mono (by first | decide | exact Nat.le_refl _)) (by rfl) T.g_take T.F_take.kp T.b_take .nil pass0 (pa_cons (pv 0) (pa_cons (pe_callB (call_max2 rfl) (by rfl) T.z_max (by decide +kernel) (pa_cons pe_int (pa_cons (pe_callB (call_min2 rfl) (by rfl) T.z_min (by decide +kernel) (pa_cons pe_int (pa_cons (pv 1) pa_nil))) pa_nil))) pa_nil)))))
      (pss_cons (ps_set (i := 3) sc_letters.nd rfl (.inl rfl) pe_str)
      (pss_cons (ps_set (i := 4) sc_letters.nd rfl (.inl rfl) (pe_call (ok_take T) (hr.mono (by first | decide | exact Nat.le_refl _)) (by rfl) T.g_take T.F_take.kp T.b_take .nil pass0 (pa_cons (pv 0) (pa_cons pe_int pa_nil))))
      (pss_cons (ps_if (pt_cmpR op_eq (pv 4) pe_int (nomark _)) (pss_one (ps_ret (pe_slice sl_str (pv 3) po_none (po_some (pv 2))))) pss_nil)
      (pss_cons (ps_if (pt_cmpR op_eq (pv 4) pe_int (nomark _)) (pss_one (ps_ret (pe_slice sl_str (pv 3) (po_some (pe_op op_sub pe_int (pv 2))) po_none))) pss_nil)
      (pss_cons (ps_set (i := 5) sc_letters.nd rfl (.inl rfl) (pe_un un_neg pe_int))
      (pss_cons (ps_set (i := 6) sc_letters.nd rfl (.inl rfl) pe_str)
      (pss_cons (ps_for PassesOwn.never rfl (pi_range1 (by rfl) T.z_range (pa_cons (pv 2) pa_nil)) (pg_name (i := 7) sc_letters.nd rfl (.inl rfl)) (pss_cons (ps_set (i := 5) sc_letters.nd rfl (.inl rfl) (pe_op op_add (pe_op op_add (pv 5) pe_int) (pe_call (ok_take T) (hr.mono (by first | decide | exact Nat.le_refl _)) (by rfl) T.g_take T.F_take.kp T.b_take .nil pass0 (pa_cons (pv 0) (pa_cons (pe_op op_sub (pe_op op_add (pe_op op_sub pe_int (pv 2)) (pv 7)) (pv 5)) pa_nil)))))
      (pss_one (ps_set (i := 6) sc_letters.nd rfl (.inl rfl) (pe_op op_add_str (pv 6) (pe_ix ix_str (pv 3) (pv 5) (fun _ _ => rfl)))))))
      (pss_one (ps_ret (pv 6))))))))))), ?_⟩
    have hm : (if (if n < 4 then n else 4) > 1 then (if n < 4 then n else 4) else 1) ≤ 4 ∧ 1 ≤ (if (if n < 4 then n else 4) > 1 then (if n < 4 then n else 4) else 1) := by
      split <;> split <;> omega
    refine ⟨_, rfl, _, rfl, _, _, rfl, _, _, rfl, a, ca, _, rfl, S, Int.lt_of_le_of_lt hm.1 (by decide), fun d H1 d0 d1 B1 S1 => ?_⟩
    have d4 : d < 4 := by
      have e1 : d < (if (if n < 4 then n else 4) > 1 then (if n < 4 then n else 4) else 1) ∨ d = 0 := d1
      omega
    obtain ⟨j, rfl⟩ := Int.eq_ofNat_of_zero_le d0
    have hj : j < 4 := by omega
    refine ⟨_, _, rfl, rfl, _, rfl, a, ca, 4, rfl, S1, by decide, fun e H2 e0 e1 B2 S2 => ?_⟩
    have B12 := B1.trans B2
    refine ⟨_, rfl, rfl, _, rfl, ite2 (fun g1 => ?_) (fun g1 => ?_)⟩
    · -- every[:size]
      refine ⟨_, rfl, _, rfl, _, rfl, abc, rfl, small_text (by rw [len_abc]; decide), ?_⟩
      have e : (1 : Int) + (j : Int) = ((1 + j : Nat) : Int) := by omega
      show Q (.str (cutS abc none (some (1 + (j : Int))))) H2
      rw [e]
      exact q _ _ (abc_upto (by omega) (by omega)) B12 S2
    · refine ⟨_, rfl, rfl, _, rfl, ite2 (fun g2 => ?_) (fun g2 => ?_)⟩
      · -- every[26 - size:]
        refine ⟨_, rfl, _, rfl, _, _, rfl, rfl, _, rfl, abc, rfl, small_text (by rw [len_abc]; decide), ?_⟩
        have e : (26 : Int) - (1 + (j : Int)) = ((25 - j : Nat) : Int) := by omega
        show Q (.str (cutS abc (some (26 - (1 + (j : Int)))) none)) H2
        rw [e]
        exact q _ _ (abc_from (by omega) (by omega)) B12 S2
      · refine ⟨_, rfl, _, rfl, _, rfl, by show -(2 ^ 62 : Int) ≤ 1 + (j : Int); omega, by show 1 + (j : Int) < 2 ^ 62; omega, ?_⟩
        have ej : ((1 : Int) + (j : Int)).toNat = j + 1 := by omega
        refine for_range (lo := 0) (n := ((1 : Int) + (j : Int)).toNat) (fun i σ H' => ∃ (at_ : Int) (v : Str) (y : Option V), σ = [some (.ref a), some (.int n), some (.int (1 + (j : Int))), some (.str abc), some (.int e), some (.int at_), some (.str v), y] ∧
          But a H H' ∧ Sto H' a ca ∧ -1 ≤ at_ ∧ at_ ≤ 25 - (1 + (j : Int)) + (i : Int) ∧ v.length = i ∧ (cs v).Pairwise (· < ·) ∧ ∀ c ∈ cs v, 97 ≤ c ∧ (c : Int) ≤ 97 + at_) ?_ ?_ ?_
        · refine ⟨-1, Str.ofString "", none, rfl, B12, S2, by decide, by omega, by decide +kernel, ?_, fun c m => ?_⟩
          · rw [cs_empty]
            exact .nil
          · rw [cs_empty] at m
            exact absurd m List.not_mem_nil
        · rintro i σ H3 hi ⟨at_, v, y, rfl, B3, S3, a0, a1, hl, hp, hc⟩
          have hi' : i < j + 1 := by rw [← ej]; exact hi
          refine ⟨_, rfl, _, _, rfl, rfl, _, rfl, _, rfl, _, _, rfl, rfl, _, rfl, _, _, rfl, rfl, _, rfl, _, _, rfl, rfl, a, ca, _, rfl, S3, by show 26 - (1 + (j : Int)) + (0 + (i : Int)) - at_ < 1073741824; omega, fun f H4 f0 f1 B4 S4 => ?_⟩
          have f1' : f < 26 - (1 + (j : Int)) + (0 + (i : Int)) - at_ ∨ f = 0 := f1
          have k0 : 0 ≤ at_ + 1 + f := by omega
          have k1 : at_ + 1 + f ≤ 25 - (1 + (j : Int)) + ((i : Int) + 1) := by omega
          obtain ⟨g, eg⟩ := Int.eq_ofNat_of_zero_le k0
          have hg : g < 26 := by omega
          have hat : atI (cs abc) (at_ + 1 + f) = some (97 + g) := by
            rw [eg, cs_abc]
            refine atI_nat ?_
            rw [List.getElem?_range' hg]
            simp
          refine ⟨_, _, rfl, rfl, _, rfl, _, rfl, _, rfl, abc, _, _, rfl, rfl, small_text (by rw [len_abc]; decide), hat, _, _, rfl, rfl, ?_, ?_⟩
          · refine small_text ?_
            show v.length + 1 ≤ 1000000
            omega
          · refine ⟨at_ + 1 + f, v ++ ⟨#[97 + g]⟩, _, rfl, B3.trans B4, S4, by omega, by omega, ?_, ?_, fun c m => ?_⟩
            · rw [length_app, hl]
              rfl
            · rw [cs_app, cs_one]
              refine List.pairwise_append.mpr ⟨hp, List.pairwise_singleton _ _, fun x hx y hy => ?_⟩
              rw [List.mem_singleton.mp hy]
              have := hc x hx
              omega
            · rw [cs_app, cs_one] at m
              rcases List.mem_append.mp m with m | m
              · have := hc c m
                omega
              · rw [List.mem_singleton.mp m]
                omega
        · rintro σ H3 ⟨at_, v, y, rfl, B3, S3, a0, a1, hl, hp, hc⟩
          refine ⟨_, rfl, q v H3 ⟨hp, fun c m => ?_, ?_, ?_⟩ B3 S3⟩
          · have := hc c m
            omega
          · omega
          · omega

/-- a sign of the text, an item of the list; the store moves on, all else stands -/
def sp_pick (_ : PySem.W.Frag) : Sp := fun vs H Q _ => ∃ (a ca : Addr), Sto H a ca ∧ ((∃ z : Str, vs = [.ref a, .str z] ∧ 0 < z.length ∧ z.length ≤ 1000000 ∧
    ∀ (c : Nat) (H' : Hp), c ∈ cs z → But a H H' → Sto H' a ca → Q (.str ⟨#[c]⟩) H') ∨
  (∃ (l : Addr) (xs : List V), vs = [.ref a, .ref l] ∧ l ≠ a ∧ H l = some (.lst xs) ∧ 0 < xs.length ∧ xs.length ≤ 1000000 ∧
    ∀ (x : V) (H' : Hp), x ∈ xs → But a H H' → Sto H' a ca → Q x H'))
theorem ok_pick (T : Txt K mg base) : FnOk P w K mg base CX0 (2 + 1) T.f_pick T.fd_pick ["store", "row"] (sp_pick K) := by
  refine T.F_pick.ok sc_pick (fun vs H Q E h => ?_) (fun cdv A outer s H vs Q E hr h => ?_)
  · obtain ⟨a, ca, _, ⟨z, rfl, _⟩ | ⟨l, xs, rfl, _⟩⟩ := h <;> rfl
  · obtain ⟨a, ca, S, h⟩ := h
    refine ⟨_, (pss_one (ps_ret (pe_ix ix_seq (pv 1) (pe_call (ok_take T) (hr.mono (by first | decide | exact Nat.le_refl _)) (by rfl) T.g_take T.F_take.kp T.b_take .nil pass0 (pa_cons (pv 0) (pa_cons (pe_callB call_len (by rfl) T.z_len PySem.boot_len (pa_cons (pv 1) pa_nil)) pa_nil))) (fun _ _ => rfl)))), ?_⟩
    rcases h with ⟨z, rfl, h0, h1, q⟩ | ⟨l, xs, rfl, hla, hl, h0, h1, q⟩
    · refine ⟨_, rfl, _, rfl, _, rfl, _, _, rfl, ⟨small_text h1, rfl⟩, a, ca, _, rfl, S, by omega, fun d H' d0 d1 hB S' => ?_⟩
      obtain ⟨j, rfl⟩ := Int.eq_ofNat_of_zero_le d0
      have hj : j < (cs z).length := by
        rw [cs_len]
        omega
      exact .inr (.inr ⟨z, _, (cs z)[j], rfl, rfl, small_text h1, atI_nat (List.getElem?_eq_getElem hj), q _ _ (List.getElem_mem hj) hB S'⟩)
    · refine ⟨_, rfl, _, rfl, _, rfl, _, _, rfl, .inl ⟨_, .inl (.inl hl), rfl⟩, a, ca, _, rfl, S, by omega, fun d H' d0 d1 hB S' => ?_⟩
      obtain ⟨j, rfl⟩ := Int.eq_ofNat_of_zero_le d0
      have hj : j < xs.length := by omega
      exact .inl ⟨l, xs, _, xs[j], rfl, rfl, .inl (.inl (hB _ _ hla hl)), atI_nat (List.getElem?_eq_getElem hj), q _ _ (List.getElem_mem hj) hB S'⟩

/-- a text of letters of z, of at most n signs -/
def sp_word (_ : PySem.W.Frag) : Sp := fun vs H Q _ => ∃ (a ca : Addr) (z : Str) (n : Int), vs = [.ref a, .str z, .int n] ∧ Sto H a ca ∧ 0 < z.length ∧ z.length ≤ 1000000 ∧ n ≤ 100000 ∧
  ∀ (v : Str) (H' : Hp), Over z v → (v.length : Int) ≤ (if n < 0 then 0 else n) → But a H H' → Sto H' a ca → Q (.str v) H'
theorem ok_word (T : Txt K mg base) : FnOk P w K mg base CX0 (3 + 1) T.f_word T.fd_word ["store", "letters", "limit"] (sp_word K) := by
  refine T.F_word.ok sc_word (fun vs H Q E h => ?_) (fun cdv A outer s H vs Q E hr h => ?_)
  · obtain ⟨a, ca, z, n, rfl, _⟩ := h
    rfl
  · obtain ⟨a, ca, z, n, rfl, S, hz0, hz1, hn, q⟩ := h
    refine ⟨_, (pss_cons (ps_set (i := 3) sc_word.nd rfl (.inl rfl) (pe_call (ok_take T) (hr.mono (by first | decide | exact Nat.le_refl _)) (by rfl) T.g_take T.F_take.kp T.b_take .nil pass0 (pa_cons (pv 0) (pa_cons pe_int pa_nil))))
      (pss_cons (ps_if (PW.pt (pw_or (pt_cmpR op_eq (pv 3) pe_int (nomark _)) (pw_or1 (pt_cmpR op_lt (pv 2) pe_int (nomark _))))) (pss_one (ps_ret pe_str)) pss_nil)
      (pss_cons (ps_if (pt_cmpR op_eq (pv 3) pe_int (nomark _)) (pss_one (ps_ret (pe_op op_rep_str (pe_call (ok_pick T) (hr.mono (by first | decide | exact Nat.le_refl _)) (by rfl) T.g_pick T.F_pick.kp T.b_pick .nil pass0 (pa_cons (pv 0) (pa_cons (pv 1) pa_nil))) (pv 2)))) pss_nil)
      (pss_cons (ps_set (i := 4) sc_word.nd rfl (.inl rfl) (pv 2))
      (pss_cons (ps_if (pt_cmpR op_gt (pv 3) pe_int (nomark _)) (pss_one (ps_set (i := 4) sc_word.nd rfl (.inl rfl) (pe_call (ok_take T) (hr.mono (by first | decide | exact Nat.le_refl _)) (by rfl) T.g_take T.F_take.kp T.b_take .nil pass0 (pa_cons (pv 0) (pa_cons (pe_op op_add (pv 2) pe_int) pa_nil))))) pss_nil)
      (pss_cons (ps_if (pt_cmpR op_eq (pv 3) pe_int (nomark _)) (pss_one (ps_ret (pe_op op_rep_str (pe_call (ok_pick T) (hr.mono (by first | decide | exact Nat.le_refl _)) (by rfl) T.g_pick T.F_pick.kp T.b_pick .nil pass0 (pa_cons (pv 0) (pa_cons (pv 1) pa_nil))) (pv 4)))) pss_nil)
      (pss_one (ps_ret (pe_join pe_str (pe_lc (own := [("k", 5)]) (g := gName 5) rfl sc_word.nd (pi_range1 (by rfl) T.z_range (pa_cons (pv 4) pa_nil)) (blkOk_by (N := ["store", "letters", "limit", "draw", "size", "k"]) (sc := defScope s_word) (by decide +kernel)) (fun _ _ _ _ _ => pg_name (i := 5) sc_word.nd rfl (Or.inl rfl)) (fun _ _ _ _ _ => pts_nil) (fun _ _ _ _ _ => (pe_call (ok_pick T) (hr.mono (by first | decide | exact Nat.le_refl _)) (by rfl) T.g_pick T.F_pick.kp T.b_pick .nil pass0 (pa_cons (pv 0) (pa_cons (pv 1) pa_nil)))))))))))))), ?_⟩
    refine ⟨_, rfl, a, ca, 9, rfl, S, by decide, fun d H1 d0 d1 B1 S1 => ?_⟩
    have h0 : ((0 : Nat) : Int) ≤ (if n < 0 then 0 else n) := by split <;> omega
    refine ⟨_, rfl, rfl, _, rfl, ite2 (fun g1 => ?_) (fun g1 => ?_)⟩
    · exact q _ _ Over.empty h0 B1 S1
    · refine ⟨_, rfl, _, _, rfl, rfl, _, rfl, ite2 (fun g2 => ?_) (fun g2 => ?_)⟩
      · exact q _ _ Over.empty h0 B1 S1
      · have g2' : 1 ≤ n := by
          have := of_decide_eq_false (Bool.not_eq_true _ ▸ g2 : decide (n < 1) = false)
          omega
        have hn0 : (if n < 0 then (0 : Int) else n) = n := if_neg (by omega)
        rw [hn0] at q
        have one_ok : ∀ (c : Nat) (k : Int) (H' : Hp), c ∈ cs z → 0 ≤ k → k ≤ n → But a H H' → Sto H' a ca → Q (.str (Txt.mul ⟨#[c]⟩ k)) H' := fun c k H' hc k0 k1 B S => by
          refine q _ _ (Over.one hc).mul ?_ B S
          rw [length_mul]
          show ((1 * k.toNat : Nat) : Int) ≤ n
          omega
        refine ⟨_, rfl, rfl, _, rfl, ite2 (fun g3 => ?_) (fun g3 => ?_)⟩
        · refine ⟨_, rfl, _, rfl, a, ca, S1, .inl ⟨z, rfl, hz0, hz1, fun c H2 hc B2 S2 => ⟨_, rfl, _, n, rfl, rfl, by show 1 ≤ 16; decide, by omega, by omega, one_ok c n H2 hc (by omega) (Int.le_refl _) (B1.trans B2) S2⟩⟩⟩
        · refine ⟨_, rfl, _, rfl, _, _, rfl, rfl, _, rfl, ite2 (fun g4 => ?_) (fun g4 => ?_)⟩
          · refine ⟨_, rfl, _, rfl, _, _, rfl, rfl, a, ca, _, rfl, S1, by show n + 1 < 1073741824; omega, fun k H2 k0 k1 B2 S2 => ?_⟩
            have k2 : k < n + 1 ∨ k = 0 := k1
            have kn : k ≤ n := by omega
            refine ⟨_, rfl, rfl, _, rfl, ite2 (fun g5 => ?_) (fun g5 => ?_)⟩
            · exact ⟨_, rfl, _, rfl, a, ca, S2, .inl ⟨z, rfl, hz0, hz1, fun c H3 hc B3 S3 => ⟨_, rfl, _, k, rfl, rfl, by show 1 ≤ 16; decide, by omega, by omega, one_ok c k H3 hc k0 kn ((B1.trans B2).trans B3) S3⟩⟩⟩
            · refine ⟨⟨_, rfl⟩, _, rfl, k, rfl, by show -(2 ^ 62 : Int) ≤ k; omega, by show k < 2 ^ 62; omega, fun D hD => ?_⟩
              have hDa : D ≠ a := (S2.ne hD).1
              refine lc_range (lo := 0) (n := (k).toNat) (fun i H' => ∃ ys : List Str, H' D = some (.lst (ys.map V.str)) ∧ ys.length = i ∧ (∀ y ∈ ys, ∃ c ∈ cs z, y = ⟨#[c]⟩) ∧ But a H H' ∧ Sto H' a ca) ?_ ?_ ?_
              · exact ⟨[], upd_same, rfl, fun y m => absurd m List.not_mem_nil, (B1.trans B2).trans (But.new hD), S2.new hD⟩
              · rintro i H' hi ⟨ys, h1, h2, h3, B, S'⟩
                refine ⟨rfl, ?_⟩
                refine ⟨_, rfl, _, rfl, a, ca, S', .inl ⟨z, rfl, hz0, hz1, fun c H3 hc B3 S3 => ?_⟩⟩
                refine ⟨_, B3 _ _ hDa h1, ?_, ys ++ [⟨#[c]⟩], ?_, ?_, ?_, ?_, ?_⟩
                · rw [List.length_map, h2]
                  have hi' : i < (k).toNat := hi
                  exact Nat.lt_of_lt_of_le (by omega : i < 1000000) (by decide)
                · rw [upd_same, List.map_append]
                  rfl
                · rw [List.length_append, h2]
                  rfl
                · intro y m
                  rcases List.mem_append.mp m with m | m
                  · exact h3 y m
                  · exact ⟨c, hc, List.mem_singleton.mp m⟩
                · exact (B1.trans B2).grown hD (B.trans B3) (B3 _ _ hDa h1)
                · exact S3.put (S2.ne hD)
              · rintro H' ⟨ys, h1, h2, h3, B, S'⟩
                have sum1 : (ys.map (·.length)).sum = ys.length := by
                  clear h1 h2
                  induction ys with
                  | nil => rfl
                  | cons y r ih =>
                    obtain ⟨c, _, rfl⟩ := h3 y List.mem_cons_self
                    rw [List.map_cons, List.sum_cons, ih fun x m => h3 x (List.mem_cons_of_mem _ m), List.length_cons]
                    show 1 + r.length = r.length + 1
                    omega
                refine ⟨_, _, ys, rfl, rfl, .inl (.inl (.inl h1)), ?_, q _ _ ?_ ?_ B S'⟩
                · rw [sum1]
                  show ys.length + ys.length * 0 ≤ 16777216
                  omega
                · intro c m
                  rw [cs_join0, List.mem_flatten] at m
                  obtain ⟨l, hl, hc⟩ := m
                  obtain ⟨y, hy, rfl⟩ := List.mem_map.mp hl
                  obtain ⟨c', hc', rfl⟩ := h3 y hy
                  rw [cs_one] at hc
                  rw [List.mem_singleton.mp hc]
                  exact hc'
                · have e : (Txt.join (Str.ofString "") ys).length = ys.length := by
                    rw [← cs_len, cs_join0, List.length_flatten, List.map_map]
                    rw [← sum1]
                    congr 1
                  rw [e]
                  omega
          · have nn : 0 ≤ n := by omega
            refine ⟨_, rfl, rfl, _, rfl, ite2 (fun g5 => ?_) (fun g5 => ?_)⟩
            · exact ⟨_, rfl, _, rfl, a, ca, S1, .inl ⟨z, rfl, hz0, hz1, fun c H3 hc B3 S3 => ⟨_, rfl, _, n, rfl, rfl, by show 1 ≤ 16; decide, by omega, by omega, one_ok c n H3 hc nn (Int.le_refl _) (B1.trans B3) S3⟩⟩⟩
            · refine ⟨⟨_, rfl⟩, _, rfl, n, rfl, by show -(2 ^ 62 : Int) ≤ n; omega, by show n < 2 ^ 62; omega, fun D hD => ?_⟩
              have hDa : D ≠ a := (S1.ne hD).1
              refine lc_range (lo := 0) (n := (n).toNat) (fun i H' => ∃ ys : List Str, H' D = some (.lst (ys.map V.str)) ∧ ys.length = i ∧ (∀ y ∈ ys, ∃ c ∈ cs z, y = ⟨#[c]⟩) ∧ But a H H' ∧ Sto H' a ca) ?_ ?_ ?_
              · exact ⟨[], upd_same, rfl, fun y m => absurd m List.not_mem_nil, B1.trans (But.new hD), S1.new hD⟩
              · rintro i H' hi ⟨ys, h1, h2, h3, B, S'⟩
                refine ⟨rfl, ?_⟩
                refine ⟨_, rfl, _, rfl, a, ca, S', .inl ⟨z, rfl, hz0, hz1, fun c H3 hc B3 S3 => ?_⟩⟩
                refine ⟨_, B3 _ _ hDa h1, ?_, ys ++ [⟨#[c]⟩], ?_, ?_, ?_, ?_, ?_⟩
                · rw [List.length_map, h2]
                  have hi' : i < (n).toNat := hi
                  exact Nat.lt_of_lt_of_le (by omega : i < 1000000) (by decide)
                · rw [upd_same, List.map_append]
                  rfl
                · rw [List.length_append, h2]
                  rfl
                · intro y m
                  rcases List.mem_append.mp m with m | m
                  · exact h3 y m
                  · exact ⟨c, hc, List.mem_singleton.mp m⟩
                · exact B1.grown hD (B.trans B3) (B3 _ _ hDa h1)
                · exact S3.put (S1.ne hD)
              · rintro H' ⟨ys, h1, h2, h3, B, S'⟩
                have sum1 : (ys.map (·.length)).sum = ys.length := by
                  clear h1 h2
                  induction ys with
                  | nil => rfl
                  | cons y r ih =>
                    obtain ⟨c, _, rfl⟩ := h3 y List.mem_cons_self
                    rw [List.map_cons, List.sum_cons, ih fun x m => h3 x (List.mem_cons_of_mem _ m), List.length_cons]
                    show 1 + r.length = r.length + 1
                    omega
                refine ⟨_, _, ys, rfl, rfl, .inl (.inl (.inl h1)), ?_, q _ _ ?_ ?_ B S'⟩
                · rw [sum1]
                  show ys.length + ys.length * 0 ≤ 16777216
                  omega
                · intro c m
                  rw [cs_join0, List.mem_flatten] at m
                  obtain ⟨l, hl, hc⟩ := m
                  obtain ⟨y, hy, rfl⟩ := List.mem_map.mp hl
                  obtain ⟨c', hc', rfl⟩ := h3 y hy
                  rw [cs_one] at hc
                  rw [List.mem_singleton.mp hc]
                  exact hc'
                · have e : (Txt.join (Str.ofString "") ys).length = ys.length := by
                    rw [← cs_len, cs_join0, List.length_flatten, List.map_map]
                    rw [← sum1]
                    congr 1
                  rw [e]
                  omega

/-- a text of letters of z, of n signs -/
def sp_long_word (_ : PySem.W.Frag) : Sp := fun vs H Q _ => ∃ (a ca : Addr) (z : Str) (n : Int), vs = [.ref a, .str z, .int n] ∧ Sto H a ca ∧ 0 < z.length ∧ z.length ≤ 1000000 ∧ -100000 ≤ n ∧ n ≤ 100000 ∧
  ∀ (v : Str) (H' : Hp), Over z v → (v.length : Int) = (if n < 1 then 0 else n) → But a H H' → Sto H' a ca → Q (.str v) H'
theorem ok_long_word (T : Txt K mg base) : FnOk P w K mg base CX0 (4 + 1) T.f_long_word T.fd_long_word ["store", "letters", "size"] (sp_long_word K) := by
  refine T.F_long_word.ok sc_long_word (fun vs H Q E h => ?_) (fun cdv A outer s H vs Q E hr h => ?_)
  · obtain ⟨a, ca, z, n, rfl, _⟩ := h
    rfl
  · obtain ⟨a, ca, z, n, rfl, S, hz0, hz1, hn0, hn, q⟩ := h
    refine ⟨_, (pss_cons (ps_set (i := 3) sc_long_word.nd rfl (.inl rfl) (pe_op op_add_str (pe_call (ok_pick T) (hr.mono (by first | decide | exact Nat.le_refl _)) (by rfl) T.g_pick T.F_pick.kp T.b_pick .nil pass0 (pa_cons (pv 0) (pa_cons (pv 1) pa_nil))) (pe_call (ok_word T) (hr.mono (by first | decide | exact Nat.le_refl _)) (by rfl) T.g_word T.F_word.kp T.b_word .nil pass0 (pa_cons (pv 0) (pa_cons (pv 1) (pa_cons pe_int pa_nil))))))
      (pss_cons (ps_set (i := 4) sc_long_word.nd rfl (.inl rfl) (pe_slice sl_str (pe_op op_rep_str (pv 3) (pv 2)) po_none (po_some (pv 2))))
      (pss_cons (ps_if (pt_cmpR op_lt (pv 2) pe_int (nomark _)) (pss_one (ps_ret pe_str)) pss_nil)
      (pss_cons (ps_set (i := 5) sc_long_word.nd rfl (.inl rfl) (pe_call (ok_between T) (hr.mono (by first | decide | exact Nat.le_refl _)) (by rfl) T.g_between T.F_between.kp T.b_between .nil pass0 (pa_cons (pv 0) (pa_cons pe_int (pa_cons (pe_op op_sub (pv 2) pe_int) pa_nil)))))
      (pss_one (ps_ret (pe_op op_add_str (pe_op op_add_str (pe_slice sl_str (pv 4) po_none (po_some (pv 5))) (pe_call (ok_pick T) (hr.mono (by first | decide | exact Nat.le_refl _)) (by rfl) T.g_pick T.F_pick.kp T.b_pick .nil pass0 (pa_cons (pv 0) (pa_cons (pv 1) pa_nil)))) (pe_slice sl_str (pv 4) (po_some (pe_op op_add (pv 5) pe_int)) po_none)))))))), ?_⟩
    refine ⟨_, rfl, _, rfl, a, ca, S, .inl ⟨z, rfl, hz0, hz1, fun c H1 hc B1 S1 => ?_⟩⟩
    refine ⟨_, rfl, _, rfl, a, ca, z, 4, rfl, S1, hz0, hz1, by decide, fun u H2 hu lu B2 S2 => ?_⟩
    have lu' : u.length ≤ 4 := by
      have : ((u.length : Nat) : Int) ≤ 4 := lu
      omega
    have lp : ((⟨#[c]⟩ : Str) ++ u).length = 1 + u.length := length_app _ _
    have hp : Over z ((⟨#[c]⟩ : Str) ++ u) := (Over.one hc).app hu
    refine ⟨_, _, rfl, rfl, small_text (by show 1 + u.length ≤ 1000000; omega), ?_⟩
    refine ⟨_, rfl, _, rfl, _, n, rfl, rfl, by rw [lp]; omega, by omega, by omega, _, rfl, _, rfl, _, rfl, ?_, ?_⟩
    · rw [length_mul, lp]
      refine small_text ?_
      have : (1 + u.length) * n.toNat ≤ 5 * n.toNat := Nat.mul_le_mul_right _ (by omega)
      omega
    · refine ⟨_, rfl, _, _, rfl, rfl, _, rfl, ite2 (fun g1 => ?_) (fun g1 => ?_)⟩
      · have g1' : n < 1 := of_decide_eq_true g1
        refine q _ _ Over.empty ?_ (B1.trans B2) S2
        rw [if_pos g1']
        rfl
      · have g1' : ¬ n < 1 := fun z => g1 (decide_eq_true z)
        obtain ⟨k, rfl⟩ := Int.eq_ofNat_of_zero_le (by omega : 0 ≤ n)
        rw [if_neg g1'] at q
        have lw : (cutS (Txt.mul ((⟨#[c]⟩ : Str) ++ u) (k : Int)) none (some (k : Int))).length = k := by
          rw [← cs_len, cs_upto, List.length_take, cs_len, length_mul, lp]
          have : 1 * k ≤ (1 + u.length) * (k : Int).toNat := Nat.mul_le_mul (by omega) (by omega)
          omega
        have ow : Over z (cutS (Txt.mul ((⟨#[c]⟩ : Str) ++ u) (k : Int)) none (some (k : Int))) := hp.mul.cut
        refine ⟨_, rfl, _, rfl, _, _, rfl, rfl, a, ca, 0, _, rfl, S2, by show (k : Int) - 1 - 0 < 1000000000; omega, fun r H3 r0 r1 B3 S3 => ?_⟩
        have r1' : r ≤ (k : Int) - 1 ∨ r = 0 := r1
        obtain ⟨j, rfl⟩ := Int.eq_ofNat_of_zero_le r0
        refine ⟨_, rfl, _, rfl, _, rfl, _, rfl, small_text (by rw [lw]; omega), _, rfl, _, rfl, a, ca, S3, .inl ⟨z, rfl, hz0, hz1, fun d H4 hd B4 S4 => ?_⟩⟩
        have l1 : (cutS (cutS (Txt.mul ((⟨#[c]⟩ : Str) ++ u) (k : Int)) none (some (k : Int))) none (some (j : Int))).length = j := by
          rw [← cs_len, cs_upto, List.length_take, cs_len, lw]
          omega
        have l2 : (cutS (cutS (Txt.mul ((⟨#[c]⟩ : Str) ++ u) (k : Int)) none (some (k : Int))) (some ((j : Int) + 1)) none).length = k - (j + 1) := by
          rw [← cs_len, show ((j : Int) + 1) = ((j + 1 : Nat) : Int) from rfl, cs_from, List.length_drop, cs_len, lw]
        refine ⟨_, _, rfl, rfl, small_text ?_, _, rfl, _, rfl, _, _, rfl, rfl, _, rfl, _, rfl, small_text (by rw [lw]; omega), _, _, rfl, rfl, small_text ?_, ?_⟩
        · show _ + 1 ≤ 1000000
          rw [l1]
          omega
        · rw [length_app, l1, l2]
          show j + 1 + (k - (j + 1)) ≤ 1000000
          omega
        · refine q _ _ ((ow.cut.app (Over.one hd)).app ow.cut) ?_ (((B1.trans B2).trans B3).trans B4) S4
          rw [length_app, length_app, l1, l2]
          show ((j + 1 + (k - (j + 1)) : Nat) : Int) = (k : Int)
          omega

def sp_cut (_ : PySem.W.Frag) : Sp := fun vs H Q _ => ∃ p x : Str, vs = [.str p, .str x] ∧ p.length ≤ 1000000 ∧ x.length ≤ 1000000 ∧
  ((cs x).take p.length = cs p → Q (.str (cutS x (some (p.length : Int)) none)) H) ∧ ((cs x).take p.length ≠ cs p → Q .non H)
theorem ok_cut (T : Txt K mg base) : FnOk P w K mg base CX0 (0 + 1) T.f_cut T.fd_cut ["prefix", "word"] (sp_cut K) := by
  refine T.F_cut.ok sc_cut (fun vs H Q E h => ?_) (fun cdv A outer s H vs Q E hr h => ?_)
  · obtain ⟨p, x, rfl, _⟩ := h
    rfl
  · obtain ⟨p, x, rfl, hp, hx, q1, q0⟩ := h
    refine ⟨_, (pss_cons (ps_if (pt_not (pt_val (pe_m1 PySem.F.slot_str_startswith PySem.F.type_str_startswith mt_startswith (pv 1) (pv 0)))) (pss_one (ps_ret pe_non)) pss_nil)
      (pss_one (ps_ret (pe_slice sl_str (pv 1) (po_some (pe_callB call_len_str (by rfl) T.z_len PySem.boot_len (pa_cons (pv 0) pa_nil))) po_none)))), ?_⟩
    refine ⟨_, rfl, ⟨_, rfl⟩, _, rfl, x, p, rfl, rfl, _, rfl, ?_⟩
    rw [starts_iff]
    by_cases c : (cs x).take p.length = cs p
    · rw [decide_eq_true c]
      exact iteF ⟨_, rfl, _, rfl, p, rfl, small_text hp, _, rfl, x, rfl, small_text hx, q1 c⟩
    · rw [decide_eq_false c]
      exact iteT (q0 c)

def sp_starts (_ : PySem.W.Frag) : Sp := fun vs H Q _ => ∃ p x : Str, vs = [.str p, .str x] ∧ Q (.bl (decide ((cs x).take p.length = cs p))) H
theorem ok_starts (T : Txt K mg base) : FnOk P w K mg base CX0 (0 + 1) T.f_starts T.fd_starts ["prefix", "word"] (sp_starts K) := by
  refine T.F_starts.ok sc_starts (fun vs H Q E h => ?_) (fun cdv A outer s H vs Q E hr h => ?_)
  · obtain ⟨p, x, rfl, _⟩ := h
    rfl
  · obtain ⟨p, x, rfl, q⟩ := h
    refine ⟨_, (pss_one (ps_ret (pe_m1 PySem.F.slot_str_startswith PySem.F.type_str_startswith mt_startswith (pv 1) (pv 0)))), ?_⟩
    refine ⟨_, rfl, ⟨_, rfl⟩, _, rfl, x, p, rfl, rfl, ?_⟩
    rw [starts_iff]
    exact q

def sp_prefix_asked (_ : PySem.W.Frag) : Sp := fun vs H Q _ => ∃ p x : Str, vs = [.str p, .str x] ∧ p.length ≤ 1000000 ∧ x.length ≤ 1000000 ∧ Q (.bl true) H
theorem ok_prefix_asked (T : Txt K mg base) : FnOk P w K mg base CX0 (5 + 1) T.f_prefix_asked T.fd_prefix_asked ["prefix", "word"] (sp_prefix_asked K) := by
  refine T.F_prefix_asked.ok sc_prefix_asked (fun vs H Q E h => ?_) (fun cdv A outer s H vs Q E hr h => ?_)
  · obtain ⟨p, x, rfl, _⟩ := h
    rfl
  · obtain ⟨p, x, rfl, hp, hx, q⟩ := h
    refine ⟨_, (pss_cons (ps_set (i := 2) sc_prefix_asked.nd rfl (.inl rfl) (pe_cmpR op_eq (pe_slice sl_str (pv 1) po_none (po_some (pe_callB call_len_str (by rfl) T.z_len PySem.boot_len (pa_cons (pv 0) pa_nil)))) (pv 0) (nomark _)))
      (pss_cons (ps_set (i := 3) sc_prefix_asked.nd rfl (.inl rfl) pe_non)
      (C8.pss_cut (ps_if (pt_val (pv 2)) (pss_one (ps_set (i := 3) sc_prefix_asked.nd rfl (.inl rfl) (pe_slice sl_str (pv 1) (po_some (pe_callB call_len_str (by rfl) T.z_len PySem.boot_len (pa_cons (pv 0) pa_nil))) po_none))) pss_nil)
      (pss_one (ps_ret (pe_and (pe_call (ok_same T) (hr.mono (by first | decide | exact Nat.le_refl _)) (by rfl) T.g_same T.F_same.kp T.b_same .nil pass0 (pa_cons (pe_call (ok_starts T) (hr.mono (by first | decide | exact Nat.le_refl _)) (by rfl) T.g_starts T.F_starts.kp T.b_starts .nil pass0 (pa_cons (pv 0) (pa_cons (pv 1) pa_nil))) (pa_cons (pv 2) pa_nil))) (pe_one (pe_call (ok_same T) (hr.mono (by first | decide | exact Nat.le_refl _)) (by rfl) T.g_same T.F_same.kp T.b_same .nil pass0 (pa_cons (pe_call (ok_cut T) (hr.mono (by first | decide | exact Nat.le_refl _)) (by rfl) T.g_cut T.F_cut.kp T.b_cut .nil pass0 (pa_cons (pv 0) (pa_cons (pv 1) pa_nil))) (pa_cons (pv 3) pa_nil)))))))))), ?_⟩
    have sp : p.length ≤ sizeLine := small_text hp
    have sx : x.length ≤ sizeLine := small_text hx
    have due : decide (V.str (cutS x none (some (p.length : Int))) = V.str p) = decide ((cs x).take p.length = cs p) := by
      by_cases c : (cs x).take p.length = cs p
      · rw [decide_eq_true c]
        exact decide_eq_true (congrArg V.str (cs_ext (by rw [cs_upto]; exact c)))
      · rw [decide_eq_false c]
        refine decide_eq_false fun e => c ?_
        injection e with e
        rw [← cs_upto, e]
    refine ⟨_, rfl, _, rfl, p, rfl, sp, _, rfl, x, rfl, sx, _, rfl, rfl, ?_⟩
    rw [due]
    by_cases c : (cs x).take p.length = cs p
    · rw [decide_eq_true c]
      refine ⟨fun σ H' => H' = H ∧ σ = [some (.str p), some (.str x), some (.bl true), some (.str (cutS x (some (p.length : Int)) none))], ⟨_, rfl, _, rfl, iteT ⟨_, rfl, _, rfl, p, rfl, sp, _, rfl, x, rfl, sx, rfl, rfl⟩⟩, ?_⟩
      rintro σ H' ⟨rfl, rfl⟩
      refine ⟨_, rfl, _, rfl, p, x, rfl, ?_⟩
      rw [decide_eq_true c]
      refine ⟨_, rfl, _, _, rfl, .inl ⟨rfl, rfl⟩, _, rfl, iteT ?_⟩
      exact ⟨_, rfl, _, rfl, p, x, rfl, hp, hx, fun _ => ⟨_, rfl, _, _, rfl, .inl ⟨rfl, rfl⟩, q⟩, fun n => absurd c n⟩
    · rw [decide_eq_false c]
      refine ⟨fun σ H' => H' = H ∧ σ = [some (.str p), some (.str x), some (.bl false), some .non], ⟨_, rfl, _, rfl, iteF ⟨rfl, rfl⟩⟩, ?_⟩
      rintro σ H' ⟨rfl, rfl⟩
      refine ⟨_, rfl, _, rfl, p, x, rfl, ?_⟩
      rw [decide_eq_false c]
      refine ⟨_, rfl, _, _, rfl, .inl ⟨rfl, rfl⟩, _, rfl, iteT ?_⟩
      exact ⟨_, rfl, _, rfl, p, x, rfl, hp, hx, fun n => absurd n c, fun _ => ⟨_, rfl, _, _, rfl, .inl ⟨rfl, rfl⟩, q⟩⟩

def sp_unlike_word (_ : PySem.W.Frag) : Sp := fun vs H Q _ => ∃ (a ca : Addr) (z x : Str), vs = [.ref a, .str z, .str x] ∧ Sto H a ca ∧ 0 < z.length ∧ z.length ≤ 1000000 ∧ (cs z).Nodup ∧ x.length ≤ 100000 ∧ Over z x ∧
  ∀ (v : Str) (H' : Hp), Over z v → v.length ≤ x.length + 1 → But a H H' → Sto H' a ca → Q (.str v) H'
theorem ok_unlike_word (T : Txt K mg base) : FnOk P w K mg base CX0 (3 + 1) T.f_unlike_word T.fd_unlike_word ["store", "letters", "word"] (sp_unlike_word K) := by
  refine T.F_unlike_word.ok sc_unlike_word (fun vs H Q E h => ?_) (fun cdv A outer s H vs Q E hr h => ?_)
  · obtain ⟨a, ca, z, x, rfl, _⟩ := h
    rfl
  · obtain ⟨a, ca, z, x, rfl, S, z0, z1, zn, xl, ox, q⟩ := h
    refine ⟨_, (pss_cons (ps_set (i := 3) sc_unlike_word.nd rfl (.inl rfl) (pe_call (ok_take T) (hr.mono (by first | decide | exact Nat.le_refl _)) (by rfl) T.g_take T.F_take.kp T.b_take .nil pass0 (pa_cons (pv 0) (pa_cons pe_int pa_nil))))
      (pss_cons (ps_set (i := 4) sc_unlike_word.nd rfl (.inr rfl) (pe_call (ok_take T) (hr.mono (by first | decide | exact Nat.le_refl _)) (by rfl) T.g_take T.F_take.kp T.b_take .nil pass0 (pa_cons (pv 0) (pa_cons (pe_op op_add (pe_callB call_len_str (by rfl) T.z_len PySem.boot_len (pa_cons (pv 2) pa_nil)) pe_int) pa_nil))))
      (pss_cons (ps_if (PW.pt (pw_or (pt_cmpR op_eq (pv 3) pe_int (nomark _)) (pw_or (pt_cmpR op_eq (pv 2) pe_str (nomark _)) (pw_or1 (PW.pt (pw_and (pt_cmpR op_eq (pv 3) pe_int (nomark _)) (pw_and1 (pt_cmpR op_eq (pe_callB call_len_str (by rfl) T.z_len PySem.boot_len (pa_cons (pv 1) pa_nil)) pe_int (nomark _))))))))) (pss_one (ps_ret (pe_op op_add_str (pe_op op_add_str (pe_slice sl_str (pv 2) po_none (po_some (pv 4))) (pe_call (ok_pick T) (hr.mono (by first | decide | exact Nat.le_refl _)) (by rfl) T.g_pick T.F_pick.kp T.b_pick .nil pass0 (pa_cons (pv 0) (pa_cons (pv 1) pa_nil)))) (pe_slice sl_str (pv 2) (po_some (pv 4)) po_none)))) pss_nil)
      (pss_cons (ps_set (i := 4) sc_unlike_word.nd rfl (.inr rfl) (pe_call (ok_take T) (hr.mono (by first | decide | exact Nat.le_refl _)) (by rfl) T.g_take T.F_take.kp T.b_take .nil pass0 (pa_cons (pv 0) (pa_cons (pe_callB call_len_str (by rfl) T.z_len PySem.boot_len (pa_cons (pv 2) pa_nil)) pa_nil))))
      (pss_cons (ps_if (pt_cmpR op_eq (pv 3) pe_int (nomark _)) (pss_one (ps_ret (pe_op op_add_str (pe_slice sl_str (pv 2) po_none (po_some (pv 4))) (pe_slice sl_str (pv 2) (po_some (pe_op op_add (pv 4) pe_int)) po_none)))) pss_nil)
      (pss_one (ps_ret (pe_op op_add_str (pe_op op_add_str (pe_slice sl_str (pv 2) po_none (po_some (pv 4))) (pe_call (ok_pick T) (hr.mono (by first | decide | exact Nat.le_refl _)) (by rfl) T.g_pick T.F_pick.kp T.b_pick .nil pass0 (pa_cons (pv 0) (pa_cons (pe_lc (own := [("x", 5)]) (g := gName 5) rfl sc_unlike_word.nd (pi_str (pv 1)) (blkOk_by (N := ["store", "letters", "word", "draw", "at", "x"]) (sc := defScope s_unlike_word) (by decide +kernel)) (fun _ _ _ _ _ => pg_name (i := 5) sc_unlike_word.nd rfl (Or.inl rfl)) (fun _ _ _ _ _ => (pts_one (pt_cmpR op_ne (pv 5) (pe_ix ix_str (pv 2) (pv 4) (fun _ _ => rfl)) (nomark _)))) (fun _ _ _ _ _ => (pv 5))) pa_nil)))) (pe_slice sl_str (pv 2) (po_some (pe_op op_add (pv 4) pe_int)) po_none))))))))), ?_⟩
    have sx : x.length ≤ sizeLine := small_text (by omega)
    refine ⟨_, rfl, a, ca, 3, rfl, S, by decide, fun d H1 d0 d1 B1 S1 => ?_⟩
    refine ⟨_, rfl, _, rfl, x, rfl, sx, _, _, rfl, rfl, a, ca, _, rfl, S1, by show (x.length : Int) + 1 < 1073741824; omega, fun e H2 e0 e1 B2 S2 => ?_⟩
    have e1' : e < (x.length : Int) + 1 ∨ e = 0 := e1
    obtain ⟨j, rfl⟩ := Int.eq_ofNat_of_zero_le e0
    have B12 := B1.trans B2
    have lj : (cutS x none (some (j : Int))).length = j := by
      rw [← cs_len, cs_upto, List.length_take, cs_len]
      omega
    have ld : (cutS x (some (j : Int)) none).length = x.length - j := by
      rw [← cs_len, cs_from, List.length_drop, cs_len]
    have lt3 : d < 3 := by
      have : d < 3 ∨ d = 0 := d1
      omega
    refine ⟨_, rfl, rfl, _, rfl, ite2 (fun g1 => ?A1) (fun g1 => ⟨_, rfl, rfl, _, rfl, ite2 (fun g2 => ?A2) (fun g2 => ⟨_, rfl, rfl, _, rfl, ite2 (fun g3 => ⟨_, rfl, z, rfl, small_text z1, rfl, _, rfl, ite2 (fun g4 => ?A3) (fun g4 => ?B1)⟩) (fun g3 => ?B2)⟩)⟩)⟩
    case A1 | A2 | A3 =>
      refine ⟨_, rfl, _, rfl, _, rfl, x, rfl, sx, _, rfl, _, rfl, a, ca, S2, .inl ⟨z, rfl, z0, z1, fun c H3 hc B3 S3 => ?_⟩⟩
      refine ⟨_, _, rfl, rfl, small_text (by rw [lj]; show j + 1 ≤ 1000000; omega), _, rfl, _, rfl, _, rfl, x, rfl, sx, _, _, rfl, rfl, small_text ?_, ?_⟩
      · rw [length_app, lj, ld]
        show j + 1 + (x.length - j) ≤ 1000000
        omega
      · refine q _ _ ((ox.cut.app (Over.one hc)).app ox.cut) ?_ (B12.trans B3) S3
        rw [length_app, length_app, lj, ld]
        show j + 1 + (x.length - j) ≤ x.length + 1
        omega
    case B1 | B2 =>
      have hx0 : 0 < x.length := by
        rcases Nat.eq_zero_or_pos x.length with e | e
        · exfalso
          refine g2 (decide_eq_true ?_)
          have : cs x = [] := List.length_eq_zero_iff.mp (by rw [cs_len]; exact e)
          exact congrArg V.str (cs_ext (this.trans cs_empty.symm))
        · exact e
      refine ⟨_, rfl, _, rfl, x, rfl, sx, a, ca, _, rfl, S2, by show (x.length : Int) < 1073741824; omega, fun k H3 k0 k1 B3 S3 => ?_⟩
      have k1' : k < (x.length : Int) ∨ k = 0 := k1
      obtain ⟨i, rfl⟩ := Int.eq_ofNat_of_zero_le k0
      have hi : i < x.length := by omega
      have li : (cutS x none (some (i : Int))).length = i := by
        rw [← cs_len, cs_upto, List.length_take, cs_len]
        omega
      have le : (cutS x (some ((i : Int) + 1)) none).length = x.length - (i + 1) := by
        rw [← cs_len, show ((i : Int) + 1) = ((i + 1 : Nat) : Int) from rfl, cs_from, List.length_drop, cs_len]
      have B123 := B12.trans B3
      refine ⟨_, rfl, rfl, _, rfl, ite2 (fun g5 => ?_) (fun g5 => ?_)⟩
      · refine ⟨_, rfl, _, rfl, _, rfl, x, rfl, sx, _, rfl, _, rfl, _, _, rfl, rfl, _, rfl, x, rfl, sx, _, _, rfl, rfl, small_text (by rw [li, le]; omega), ?_⟩
        refine q _ _ (ox.cut.app ox.cut) ?_ B123 S3
        rw [length_app, li, le]
        omega
      · have d01 : d = 1 := by
          have n0 : d ≠ 0 := fun e => g1 (decide_eq_true (congrArg V.int e))
          have n2 : d ≠ 2 := fun e => g5 (decide_eq_true (congrArg V.int e))
          omega
        try exact absurd (decide_eq_true (congrArg V.int d01)) g3
        all_goals (
          have z2 : 2 ≤ z.length := by
            have : z.length ≠ 1 := fun e => g4 (decide_eq_true (congrArg V.int (by rw [e]; rfl)))
            omega
          have hic : i < (cs x).length := by rw [cs_len]; exact hi
          have hat : atI (cs x) (i : Int) = some (cs x)[i] := atI_nat (List.getElem?_eq_getElem hic)
          refine ⟨_, rfl, _, rfl, _, rfl, x, rfl, sx, _, rfl, _, rfl, z, rfl, fun D hD => ?_⟩
          have nD := S3.ne hD
          refine lc_it walk_str (fun n H' => H' D = some (.lst ((((cs z).take n).filter (fun c => !decide (c = (cs x)[i]))).map fun c => V.str ⟨#[c]⟩)) ∧ But a H H' ∧ Sto H' a ca) ⟨by rw [upd_same, List.take_zero]; rfl, B123.trans (But.new hD), S3.new hD⟩ (fun _ _ _ _ => trivial) ?_ ?_
          · rintro n v H4 H5 hn ⟨h1, h2, h3⟩ ⟨rfl, c, hc, rfl⟩
            have hc' : (cs z)[n]? = some c := by
              show z.cps.toList[n]? = some c
              rw [Array.getElem?_toList]
              exact hc
            refine ⟨rfl, _, rfl, _, rfl, _, rfl, x, _, _, rfl, rfl, sx, hat, rfl, _, rfl, ite2 (fun g6 => ?_) (fun g6 => ?_)⟩
            · refine ⟨_, rfl, _, h1, ?_, ?_, ?_, ?_⟩
              · rw [List.length_map]
                refine Nat.lt_of_le_of_lt (List.length_filter_le _ _) (Nat.lt_of_le_of_lt (m := 1000000) ?_ (by decide))
                rw [List.length_take, cs_len]
                omega
              · rw [upd_same, List.take_add_one, hc', List.filter_append, List.map_append]
                have nc : c ≠ (cs x)[i] := fun e => by
                  rw [e] at g6
                  simp at g6
                simp [nc]
              · exact B123.grown hD h2 (by assumption)
              · exact h3.put nD
            · have ec : c = (cs x)[i] := by
                by_cases e : c = (cs x)[i]
                · exact e
                · exfalso
                  apply g6
                  simp [e]
              refine ⟨?_, h2, h3⟩
              rw [h1, List.take_add_one, hc', List.filter_append]
              simp [ec]
          · rintro H4 ⟨h1, h2, h3⟩
            have ez : (cs z).take z.cps.size = cs z := List.take_of_length_le (by rw [cs_len]; exact Nat.le_refl _)
            rw [ez] at h1
            have some_c : ∃ c ∈ cs z, c ≠ (cs x)[i] := by
              have l2 : 2 ≤ (cs z).length := by rw [cs_len]; exact z2
              match hz : cs z, l2, zn with
              | c1 :: c2 :: r, _, zn =>
                by_cases e : c1 = (cs x)[i]
                · refine ⟨c2, List.mem_cons_of_mem _ List.mem_cons_self, fun e2 => ?_⟩
                  have := (List.nodup_cons.mp zn).1
                  exact this (by rw [e, ← e2]; exact List.mem_cons_self)
                · exact ⟨c1, List.mem_cons_self, e⟩
            obtain ⟨c0, hc0, n0⟩ := some_c
            refine ⟨a, ca, h3, .inr ⟨D, _, rfl, nD.1, h1, ?_, ?_, fun v H5 hv B5 S5 => ?_⟩⟩
            · rw [List.length_map]
              exact List.length_pos_of_mem (List.mem_filter.mpr ⟨hc0, by simp [n0]⟩)
            · rw [List.length_map]
              refine Nat.le_trans (List.length_filter_le _ _) ?_
              rw [cs_len]
              omega
            · obtain ⟨c, hc, rfl⟩ := List.mem_map.mp hv
              have hcz := (List.mem_filter.mp hc).1
              refine ⟨_, _, rfl, rfl, small_text (by rw [li]; show i + 1 ≤ 1000000; omega), _, rfl, _, rfl, _, _, rfl, rfl, _, rfl, x, rfl, sx, _, _, rfl, rfl, small_text ?_, ?_⟩
              · rw [length_app, li, le]
                show i + 1 + (x.length - (i + 1)) ≤ 1000000
                omega
              · refine q _ _ ((ox.cut.app (Over.one hcz)).app ox.cut) ?_ (h2.trans B5) S5
                rw [length_app, length_app, li, le]
                show i + 1 + (x.length - (i + 1)) ≤ x.length + 1
                omega)

def sp_prefixes (_ : PySem.W.Frag) : Sp := fun vs H Q _ => ∃ (a ca : Addr) (z x y : Str), vs = [.ref a, .str z, .str x, .str y] ∧ Sto H a ca ∧ 0 < z.length ∧ z.length ≤ 1000000 ∧ (cs z).Nodup ∧ x.length ≤ 10000 ∧ y.length ≤ 10000 ∧ Over z x ∧
  ∀ (ws : List Str) (p : Addr) (H' : Hp), (∀ u ∈ ws, u.length ≤ 1000000) → But a H H' → Sto H' a ca → H p = none → p ≠ a → H' p = some (.lst (ws.map V.str)) → Q (.ref p) H'
theorem ok_prefixes (T : Txt K mg base) : FnOk P w K mg base CX0 (4 + 1) T.f_prefixes T.fd_prefixes ["store", "letters", "one", "two"] (sp_prefixes K) := by
  refine T.F_prefixes.ok sc_prefixes (fun vs H Q E h => ?_) (fun cdv A outer s H vs Q E hr h => ?_)
  · obtain ⟨a, ca, z, x, y, rfl, _⟩ := h
    rfl
  · obtain ⟨a, ca, z, x, y, rfl, S, z0, z1, zn, hx, hy, ox, q⟩ := h
    refine ⟨_, (pss_cons (ps_set (i := 4) sc_prefixes.nd rfl (.inl rfl) (pe_lst (pa_cons pe_str (pa_cons (pv 2) (pa_cons (pv 3) (pa_cons (pe_slice sl_str (pv 2) po_none (po_some (pe_call (ok_between T) (hr.mono (by first | decide | exact Nat.le_refl _)) (by rfl) T.g_between T.F_between.kp T.b_between .nil pass0 (pa_cons (pv 0) (pa_cons pe_int (pa_cons (pe_callB call_len_str (by rfl) T.z_len PySem.boot_len (pa_cons (pv 2) pa_nil)) pa_nil)))))) (pa_cons (pe_slice sl_str (pv 3) po_none (po_some (pe_call (ok_between T) (hr.mono (by first | decide | exact Nat.le_refl _)) (by rfl) T.g_between T.F_between.kp T.b_between .nil pass0 (pa_cons (pv 0) (pa_cons pe_int (pa_cons (pe_callB call_len_str (by rfl) T.z_len PySem.boot_len (pa_cons (pv 3) pa_nil)) pa_nil)))))) pa_nil)))))))
      (pss_cons (ps_expr (pe_bm PySem.F.plainAttrs_list PySem.F.slot_list_append PySem.F.type_list_append mt_append (pv 4) (pa_cons (pe_op op_add_str (pv 2) (pe_call (ok_pick T) (hr.mono (by first | decide | exact Nat.le_refl _)) (by rfl) T.g_pick T.F_pick.kp T.b_pick .nil pass0 (pa_cons (pv 0) (pa_cons (pv 1) pa_nil)))) pa_nil)))
      (pss_cons (ps_expr (pe_bm PySem.F.plainAttrs_list PySem.F.slot_list_append PySem.F.type_list_append mt_append (pv 4) (pa_cons (pe_call (ok_unlike_word T) (hr.mono (by first | decide | exact Nat.le_refl _)) (by rfl) T.g_unlike_word T.F_unlike_word.kp T.b_unlike_word .nil pass0 (pa_cons (pv 0) (pa_cons (pv 1) (pa_cons (pe_slice sl_str (pv 2) po_none (po_some (pe_call (ok_between T) (hr.mono (by first | decide | exact Nat.le_refl _)) (by rfl) T.g_between T.F_between.kp T.b_between .nil pass0 (pa_cons (pv 0) (pa_cons pe_int (pa_cons (pe_callB call_len_str (by rfl) T.z_len PySem.boot_len (pa_cons (pv 2) pa_nil)) pa_nil)))))) pa_nil)))) pa_nil)))
      (pss_cons (ps_expr (pe_bm PySem.F.plainAttrs_list PySem.F.slot_list_append PySem.F.type_list_append mt_append (pv 4) (pa_cons (pe_call (ok_word T) (hr.mono (by first | decide | exact Nat.le_refl _)) (by rfl) T.g_word T.F_word.kp T.b_word .nil pass0 (pa_cons (pv 0) (pa_cons (pv 1) (pa_cons pe_int pa_nil)))) pa_nil)))
      (pss_one (ps_ret (pv 4))))))), ?_⟩
    have sx : x.length ≤ sizeLine := small_text (by omega)
    have sy : y.length ≤ sizeLine := small_text (by omega)
    refine ⟨_, rfl, _, rfl, _, rfl, _, rfl, _, rfl, x, rfl, sx, a, ca, 0, _, rfl, S, by show (x.length : Int) - 0 < 1000000000; omega, fun r1 H1 _ _ B1 S1 => ?_⟩
    refine ⟨_, rfl, x, rfl, sx, ?_⟩
    refine ⟨_, rfl, _, rfl, _, rfl, y, rfl, sy, a, ca, 0, _, rfl, S1, by show (y.length : Int) - 0 < 1000000000; omega, fun r2 H2 _ _ B2 S2 => ?_⟩
    refine ⟨_, rfl, y, rfl, sy, by show 5 ≤ sizeLine; decide, fun p np => ?_⟩
    have B12 := B1.trans B2
    have np0 : H p = none := B12.free np (S2.ne np).1
    have npa := S2.ne np
    have S3 := S2.new (o := .lst [.str (Str.ofString ""), .str x, .str y, .str (cutS x none (some r1)), .str (cutS y none (some r2))]) np
    have h3 : (upd H2 p (.lst [.str (Str.ofString ""), .str x, .str y, .str (cutS x none (some r1)), .str (cutS y none (some r2))])) p = some (.lst [.str (Str.ofString ""), .str x, .str y, .str (cutS x none (some r1)), .str (cutS y none (some r2))]) := upd_same
    have B3 : But a H (upd H2 p (.lst [.str (Str.ofString ""), .str x, .str y, .str (cutS x none (some r1)), .str (cutS y none (some r2))])) := B12.trans (But.new np)
    -- row.append(one + pick)
    refine ⟨_, rfl, .inl ⟨rfl, _, .inl (.inl h3)⟩, _, rfl, _, rfl, _, rfl, a, ca, S3, .inl ⟨z, rfl, z0, z1, fun c H4 hc B4 S4 => ?_⟩⟩
    have h4 := B4 _ _ npa.1 h3
    refine ⟨_, _, rfl, rfl, small_text (by show x.length + 1 ≤ 1000000; omega), p, _, _, rfl, rfl, h4, by show 5 < sizeLine; decide, ?_⟩
    have S5 := S4.put (o := .lst [.str (Str.ofString ""), .str x, .str y, .str (cutS x none (some r1)), .str (cutS y none (some r2)), .str (x ++ ⟨#[c]⟩)]) npa
    have h5 : (upd H4 p (.lst [.str (Str.ofString ""), .str x, .str y, .str (cutS x none (some r1)), .str (cutS y none (some r2)), .str (x ++ ⟨#[c]⟩)])) p = _ := upd_same
    have B5 : But a H (upd H4 p (.lst [.str (Str.ofString ""), .str x, .str y, .str (cutS x none (some r1)), .str (cutS y none (some r2)), .str (x ++ ⟨#[c]⟩)])) := (But.refl H).grown np0 (B3.trans B4) h4
    -- row.append(unlike)
    refine ⟨_, rfl, .inl ⟨rfl, _, .inl (.inl h5)⟩, _, rfl, _, rfl, _, rfl, _, rfl, _, rfl, x, rfl, sx, a, ca, 0, _, rfl, S5, by show (x.length : Int) - 0 < 1000000000; omega, fun r3 H6 _ _ B6 S6 => ?_⟩
    have c6 := cut_len x none (some r3)
    refine ⟨_, rfl, x, rfl, sx, a, ca, z, _, rfl, S6, z0, z1, zn, by omega, ox.cut, fun u H7 _ lu B7 S7 => ?_⟩
    have h7 := B7 _ _ npa.1 (B6 _ _ npa.1 h5)
    refine ⟨p, _, _, rfl, rfl, h7, by show 6 < sizeLine; decide, ?_⟩
    have S8 := S7.put (o := .lst [.str (Str.ofString ""), .str x, .str y, .str (cutS x none (some r1)), .str (cutS y none (some r2)), .str (x ++ ⟨#[c]⟩), .str u]) npa
    have h8 : (upd H7 p (.lst [.str (Str.ofString ""), .str x, .str y, .str (cutS x none (some r1)), .str (cutS y none (some r2)), .str (x ++ ⟨#[c]⟩), .str u])) p = _ := upd_same
    have B8 : But a H (upd H7 p (.lst [.str (Str.ofString ""), .str x, .str y, .str (cutS x none (some r1)), .str (cutS y none (some r2)), .str (x ++ ⟨#[c]⟩), .str u])) := (But.refl H).grown np0 ((B5.trans B6).trans B7) h7
    -- row.append(word)
    refine ⟨_, rfl, .inl ⟨rfl, _, .inl (.inl h8)⟩, _, rfl, _, rfl, a, ca, z, 4, rfl, S8, z0, z1, by decide, fun v H9 _ lv B9 S9 => ?_⟩
    have h9 := B9 _ _ npa.1 h8
    have lv' : v.length ≤ 4 := by
      have : ((v.length : Nat) : Int) ≤ 4 := lv
      omega
    refine ⟨p, _, _, rfl, rfl, h9, by show 7 < sizeLine; decide, ?_⟩
    have c1 := cut_len x none (some r1)
    have c2 := cut_len y none (some r2)
    refine ⟨_, rfl, q [Str.ofString "", x, y, cutS x none (some r1), cutS y none (some r2), x ++ ⟨#[c]⟩, u, v] p _ ?_ ((But.refl H).grown np0 (B8.trans B9) h9) (S9.put npa) np0 npa.1 upd_same⟩
    intro t ht
    have le : (Str.ofString "").length = 0 := by decide +kernel
    have lx1 : (x ++ ⟨#[c]⟩ : Str).length = x.length + 1 := length_app _ _
    simp only [List.mem_cons, List.not_mem_nil, or_false] at ht
    rcases ht with rfl | rfl | rfl | rfl | rfl | rfl | rfl | rfl <;> omega

def sp_store (K : PySem.W.Frag) : Sp := fun vs H Q _ => ∃ (a : Addr) (ns : List Int), vs = [.ref a] ∧ SqL K H a (ns.map V.int) ∧ ns.length ≤ 63 ∧
  ∀ (p ca : Addr) (H' : Hp), Same H H' → H p = none → Sto H' p ca → Q (.ref p) H'
theorem ok_store (T : Txt K mg base) : FnOk P w K mg base CX0 (0 + 1) T.f_store T.fd_store ["script"] (sp_store K) := by
  refine T.F_store.ok sc_store (fun vs H Q E h => ?_) (fun cdv A outer s H vs Q E hr h => ?_)
  · obtain ⟨a, ns, rfl, _⟩ := h
    rfl
  · obtain ⟨a, ns, rfl, hS, hl, q⟩ := h
    refine ⟨_, (pss_cons (ps_set (i := 1) sc_store.nd rfl (.inl rfl) pe_int)
      (pss_cons (ps_for PassesOwn.never rfl (pi_list (pv 0)) (pg_name (i := 2) sc_store.nd rfl (.inl rfl)) (pss_one (ps_set (i := 1) sc_store.nd rfl (.inl rfl) (pe_op op_mod (pe_callTy call_int1 (by rfl) T.z_int (by decide +kernel) (pa_cons (pe_op op_add (pe_op op_add (pe_op op_mul (pv 1) pe_int) (pe_op op_mod (pe_callTy call_int1 (by rfl) T.z_int (by decide +kernel) (pa_cons (pv 2) pa_nil)) pe_int)) pe_int) pa_nil)) pe_int))))
      (pss_one (ps_ret (pe_lst (pa_cons (pe_callTy call_list_of (by rfl) T.z_list (by decide +kernel) (pa_cons (pv 0) pa_nil)) (pa_cons pe_int (pa_cons pe_int (pa_cons pe_int (pa_cons (pv 1) pa_nil)))))))))), ?_⟩
    -- seed = 17, the loop
    refine ⟨.ref a, rfl, a, rfl, ⟨_, hS⟩, for_list (K := K) (a := a) (xs := ns.map V.int) (fun i σ H' => ∃ (z : Int) (y : Option V), σ = [some (.ref a), some (.int z), y] ∧ H' = H)
      ⟨17, none, rfl, rfl⟩ (fun i σ H' _ ⟨_, _, _, e⟩ => by rw [e]; exact hS) ?_ ?_⟩
    · rintro i y σ H' hi ⟨z, y0, rfl, rfl⟩
      obtain ⟨n, hn, rfl⟩ : ∃ n, ns[i]? = some n ∧ y = V.int n := by
        rw [List.getElem?_map] at hi
        cases e : ns[i]? with
        | none =>
          rw [e] at hi
          cases hi
        | some n =>
          rw [e] at hi
          exact ⟨n, rfl, (Option.some.inj hi).symm⟩
      exact ⟨_, rfl, _, _, rfl, rfl, .inr ⟨by decide, by decide⟩, _, rfl, .inl ⟨_, rfl, _, _, rfl, rfl, (by show (0 : Int) < 1000003; decide), _, _, rfl, rfl, _, _, rfl, rfl, .inl ⟨_, rfl, _, _, rfl, rfl, (by show (0 : Int) < 2147483647; decide), _, _, rfl, rfl⟩⟩⟩
    · rintro σ H' ⟨z, y0, rfl, rfl⟩
      refine ⟨.ref a, rfl, a, _, rfl, .inl hS, fun c nc => ⟨_, rfl, by show 5 ≤ sizeLine; decide, fun p np => ?_⟩⟩
      have s1 : Same H' (upd H' c (.lst (ns.map V.int))) := same_new nc
      have s2 : Same (upd H' c (.lst (ns.map V.int))) (upd (upd H' c (.lst (ns.map V.int))) p (.lst [.ref c, .int 0, .int 0, .int 0, .int z])) := same_new np
      have ncp : c ≠ p := fun e => by
        rw [← e, upd_same] at np
        cases np
      refine q p c _ (s1.trans s2) (s1.free np) ⟨ns, 0, 0, 0, z, upd_same, ?_, Int.le_refl 0, ncp⟩
      rw [upd_ne ncp, upd_same]

/-- a new list of at most n words -/
def sp_words (_ : PySem.W.Frag) : Sp := fun vs H Q _ => ∃ (a ca : Addr) (z : Str) (n m : Int), vs = [.ref a, .str z, .int n, .int m] ∧ Sto H a ca ∧ 0 < z.length ∧ z.length ≤ 1000000 ∧ 0 ≤ n ∧ n ≤ 1000 ∧ 0 ≤ m ∧ m ≤ 100000 ∧
  ∀ (ws : List Str) (p : Addr) (H' : Hp), (∀ x ∈ ws, Over z x ∧ (x.length : Int) ≤ m) → (ws.length : Int) ≤ n → But a H H' → Sto H' a ca → H p = none → p ≠ a → p ≠ ca → H' p = some (.lst (ws.map V.str)) → Q (.ref p) H'
theorem ok_words (T : Txt K mg base) : FnOk P w K mg base CX0 (4 + 1) T.f_words T.fd_words ["store", "letters", "size", "limit"] (sp_words K) := by
  refine T.F_words.ok sc_words (fun vs H Q E h => ?_) (fun cdv A outer s H vs Q E hr h => ?_)
  · obtain ⟨a, ca, z, n, m, rfl, _⟩ := h
    rfl
  · obtain ⟨a, ca, z, n, m, rfl, S, z0, z1, n0, n1, m0, m1, q⟩ := h
    refine ⟨_, (pss_cons (ps_set (i := 4) sc_words.nd rfl (.inl rfl) (pe_lst pa_nil))
      (pss_cons (ps_for PassesOwn.never rfl (pi_range1 (by rfl) T.z_range (pa_cons (pe_call (ok_between T) (hr.mono (by first | decide | exact Nat.le_refl _)) (by rfl) T.g_between T.F_between.kp T.b_between .nil pass0 (pa_cons (pv 0) (pa_cons pe_int (pa_cons (pv 2) pa_nil)))) pa_nil)) (pg_name (i := 5) sc_words.nd rfl (.inl rfl)) (pss_cons (ps_set (i := 6) sc_words.nd rfl (.inl rfl) (pe_call (ok_word T) (hr.mono (by first | decide | exact Nat.le_refl _)) (by rfl) T.g_word T.F_word.kp T.b_word .nil pass0 (pa_cons (pv 0) (pa_cons (pv 1) (pa_cons (pv 3) pa_nil)))))
      (C8.pss_cut (ps_if (PW.pt (pw_and (pt_truth (pv 4) (by intro _; rfl)) (pw_and1 (pt_cmpR op_eq (pe_call (ok_take T) (hr.mono (by first | decide | exact Nat.le_refl _)) (by rfl) T.g_take T.F_take.kp T.b_take .nil pass0 (pa_cons (pv 0) (pa_cons pe_int pa_nil))) pe_int (nomark _))))) (pss_one (ps_set (i := 6) sc_words.nd rfl (.inl rfl) (pe_call (ok_pick T) (hr.mono (by first | decide | exact Nat.le_refl _)) (by rfl) T.g_pick T.F_pick.kp T.b_pick .nil pass0 (pa_cons (pv 0) (pa_cons (pv 4) pa_nil))))) pss_nil)
      (C8.pss_cut (ps_if (PW.pt (pw_and (pt_truth (pv 4) (by intro _; rfl)) (pw_and1 (pt_cmpR op_eq (pe_call (ok_take T) (hr.mono (by first | decide | exact Nat.le_refl _)) (by rfl) T.g_take T.F_take.kp T.b_take .nil pass0 (pa_cons (pv 0) (pa_cons pe_int pa_nil))) pe_int (nomark _))))) (pss_one (ps_set (i := 6) sc_words.nd rfl (.inl rfl) (pe_slice sl_str (pe_op op_add_str (pe_call (ok_pick T) (hr.mono (by first | decide | exact Nat.le_refl _)) (by rfl) T.g_pick T.F_pick.kp T.b_pick .nil pass0 (pa_cons (pv 0) (pa_cons (pv 4) pa_nil))) (pv 6)) po_none (po_some (pv 3))))) pss_nil)
      (pss_one (ps_expr (pe_bm PySem.F.plainAttrs_list PySem.F.slot_list_append PySem.F.type_list_append mt_append (pv 4) (pa_cons (pv 6) pa_nil))))))))
      (pss_one (ps_ret (pv 4))))), ?_⟩
    refine ⟨Nat.zero_le _, fun p np => ?_⟩
    have S1 := S.new (o := .lst []) np
    have npa := S.ne np
    refine ⟨_, rfl, _, rfl, a, ca, 0, n, rfl, S1, by omega, fun r H2 r0 r1 B2 S2 => ?_⟩
    refine ⟨r, rfl, by omega, by omega, ?_⟩
    have hp2 := B2 _ _ npa.1 (upd_same (H := H) (o := .lst []) (a := p))
    refine for_range (lo := 0) (n := r.toNat) (fun i σ H' => ∃ (ws : List Str) (yk yw : Option V), σ = [some (.ref a), some (.str z), some (.int n), some (.int m), some (.ref p), yk, yw] ∧ (∀ x ∈ ws, Over z x ∧ (x.length : Int) ≤ m) ∧ ws.length = i ∧ But a H H' ∧ Sto H' a ca ∧ H' p = some (.lst (ws.map V.str))) ?_ ?_ ?_
    · exact ⟨[], none, none, rfl, fun x hx => absurd hx List.not_mem_nil, rfl, (But.new np).trans B2, S2, hp2⟩
    · rintro i σ H3 hi ⟨ws, yk, yw, rfl, hw, hl, B3, S3, hp⟩
      have hi' : i < 1000 := by
        have : i < r.toNat := hi
        omega
      have pk : ∀ {H' : Hp}, H' p = some (.lst (ws.map V.str)) → SqL K H' p (ws.map V.str) := fun h => .inl (.inl h)
      have emp : (!(ws.map V.str).isEmpty) = true → 0 < ws.length := fun e => by
        cases ws with
        | nil => cases e
        | cons x r => exact Nat.succ_pos _
      refine ⟨_, rfl, _, rfl, _, rfl, a, ca, z, m, rfl, S3, z0, z1, m1, fun x H4 ox lx B4 S4 => ?_⟩
      have lx' : (x.length : Int) ≤ m := by
        rw [if_neg (by omega)] at lx
        exact lx
      have hp4 := B4 _ _ npa.1 hp
      refine ⟨fun σ H' => ∃ y : Str, σ = [some (.ref a), some (.str z), some (.int n), some (.int m), some (.ref p), some (.int (0 + (i : Int))), some (.str y)] ∧ Over z y ∧ (y.length : Int) ≤ m ∧ But a H H' ∧ Sto H' a ca ∧ H' p = some (.lst (ws.map V.str)), ?_, ?_⟩
      · refine ⟨_, rfl, _, .inl ⟨_, pk hp4, rfl⟩, ite2 (fun e => ⟨_, rfl, a, ca, 3, rfl, S4, by decide, fun d H5 _ _ B5 S5 => ⟨rfl, _, rfl, ite2 (fun _ => ?_) (fun _ => ?_)⟩⟩) (fun _ => ?_)⟩
        · have hp5 := B5 _ _ npa.1 hp4
          have w0 := emp e
          refine ⟨_, rfl, _, rfl, a, ca, S5, .inr ⟨p, _, rfl, npa.1, hp5, by rw [List.length_map]; exact w0, by rw [List.length_map]; omega, fun v H6 hv B6 S6 => ?_⟩⟩
          obtain ⟨y, hy, rfl⟩ := List.mem_map.mp hv
          exact ⟨y, rfl, (hw y hy).1, (hw y hy).2, ((B3.trans B4).trans B5).trans B6, S6, B6 _ _ npa.1 hp5⟩
        · exact ⟨x, rfl, ox, lx', (B3.trans B4).trans B5, S5, B5 _ _ npa.1 hp4⟩
        · exact ⟨x, rfl, ox, lx', B3.trans B4, S4, hp4⟩
      · rintro σ H5 ⟨y, rfl, oy, ly, B5, S5, hp5⟩
        refine ⟨fun σ H' => ∃ y : Str, σ = [some (.ref a), some (.str z), some (.int n), some (.int m), some (.ref p), some (.int (0 + (i : Int))), some (.str y)] ∧ Over z y ∧ (y.length : Int) ≤ m ∧ But a H H' ∧ Sto H' a ca ∧ H' p = some (.lst (ws.map V.str)), ?_, ?_⟩
        · refine ⟨_, rfl, _, .inl ⟨_, pk hp5, rfl⟩, ite2 (fun e => ⟨_, rfl, a, ca, 4, rfl, S5, by decide, fun d H6 _ _ B6 S6 => ⟨rfl, _, rfl, ite2 (fun _ => ?_) (fun _ => ?_)⟩⟩) (fun _ => ?_)⟩
          · have hp6 := B6 _ _ npa.1 hp5
            have w0 := emp e
            refine ⟨_, rfl, _, rfl, a, ca, S6, .inr ⟨p, _, rfl, npa.1, hp6, by rw [List.length_map]; exact w0, by rw [List.length_map]; omega, fun v H7 hv B7 S7 => ?_⟩⟩
            obtain ⟨u, hu, rfl⟩ := List.mem_map.mp hv
            have lu := (hw u hu).2
            obtain ⟨k, rfl⟩ := Int.eq_ofNat_of_zero_le m0
            refine ⟨_, rfl, _, _, rfl, rfl, small_text (by omega), _, rfl, _, rfl, _, rfl, small_text (by rw [length_app]; omega), _, rfl, ((hw u hu).1.app oy).cut, ?_, (B5.trans B6).trans B7, S7, B7 _ _ npa.1 hp6⟩
            rw [← cs_len, cs_upto, List.length_take]
            omega
          · exact ⟨y, rfl, oy, ly, B5.trans B6, S6, B6 _ _ npa.1 hp5⟩
          · exact ⟨y, rfl, oy, ly, B5, S5, hp5⟩
        · rintro σ H6 ⟨y, rfl, oy, ly, B6, S6, hp6⟩
          refine ⟨_, rfl, .inl ⟨rfl, _, pk hp6⟩, _, rfl, p, _, _, rfl, rfl, hp6, by rw [List.length_map]; exact Nat.lt_of_lt_of_le (by omega : ws.length < 1000000) (by decide), ws ++ [y], _, _, rfl, ?_, by rw [List.length_append, hl]; rfl, ?_, S6.put npa, by rw [upd_same, List.map_append]; rfl⟩
          · intro x hx
            rcases List.mem_append.mp hx with hx | hx
            · exact hw x hx
            · rw [List.mem_singleton.mp hx]
              exact ⟨oy, ly⟩
          · exact (But.refl H).grown np B6 hp6
    · rintro σ H3 ⟨ws, yk, yw, rfl, hw, hl, B3, S3, hp⟩
      exact ⟨_, rfl, q ws p H3 hw (by omega) B3 S3 np npa.1 npa.2 hp⟩

def sp_lag_of (_ : PySem.W.Frag) : Sp := fun vs H Q _ => ∃ x y : Str, vs = [.str x, .str y] ∧ x.length ≤ 1000000 ∧ y.length ≤ 1000000 ∧
  ∀ (u v : Str) (p : Addr) (H' : Hp), IsLag (cs x) (cs y) (cs u) (cs v) → Same H H' → H p = none → H' p = some (.tup [.str u, .str v]) → Q (.ref p) H'
theorem ok_lag_of (T : Txt K mg base) : FnOk P w K mg base CX0 (1 + 1) T.f_lag_of T.fd_lag_of ["first", "second"] (sp_lag_of K) := by
  refine T.F_lag_of.ok sc_lag_of (fun vs H Q E h => ?_) (fun cdv A outer s H vs Q E hr h => ?_)
  · obtain ⟨x, y, rfl, _⟩ := h
    rfl
  · obtain ⟨x, y, rfl, hx, hy, q⟩ := h
    refine ⟨_, (pss_cons (ps_set (i := 2) sc_lag_of.nd rfl (.inl rfl) (pe_call (ok_shared_length T) (hr.mono (by first | decide | exact Nat.le_refl _)) (by rfl) T.g_shared_length T.F_shared_length.kp T.b_shared_length .nil pass0 (pa_cons (pv 0) (pa_cons (pv 1) pa_nil))))
      (pss_one (ps_ret (pe_tup (pa_cons (pe_slice sl_str (pv 0) (po_some (pv 2)) po_none) (pa_cons (pe_slice sl_str (pv 1) (po_some (pv 2)) po_none) pa_nil)))))), ?_⟩
    refine ⟨_, rfl, _, rfl, x, y, rfl, hx, hy, fun H1 sm => ?_⟩
    refine ⟨_, rfl, _, rfl, _, rfl, x, rfl, small_text hx, _, rfl, _, rfl, _, rfl, y, rfl, small_text hy, by show 2 ≤ sizeLine; decide, fun p np => ?_⟩
    refine q _ _ p _ ?_ (sm.trans (same_new np)) (sm.free np) upd_same
    rw [cs_from, cs_from]
    exact lcp_lag _ _

theorem ok_law (T : Txt K mg base) : FnOk P w K mg base CX0 (6 + 1) T.f_law T.fd_law ["script"] (sp_law K) := by
  refine T.F_law.ok sc_law (fun vs H Q E h => ?_) (fun cdv A outer s H vs Q E hr h => ?_)
  · obtain ⟨a, ns, rfl, _⟩ := h
    rfl
  · obtain ⟨sc, ns, rfl, hS, hlen, _, q⟩ := h
    refine ⟨_, (pss_cons (ps_set (i := 1) sc_law.nd rfl (.inl rfl) (pe_call (ok_store T) (hr.mono (by first | decide | exact Nat.le_refl _)) (by rfl) T.g_store T.F_store.kp T.b_store .nil pass0 (pa_cons (pv 0) pa_nil)))
      (pss_cons (ps_set (i := 2) sc_law.nd rfl (.inl rfl) (pe_call (ok_letters T) (hr.mono (by first | decide | exact Nat.le_refl _)) (by rfl) T.g_letters T.F_letters.kp T.b_letters .nil pass0 (pa_cons (pv 1) (pa_cons pe_int pa_nil))))
      (C8.pss_cut (ps_if (pt_cmpR op_eq (pe_call (ok_take T) (hr.mono (by first | decide | exact Nat.le_refl _)) (by rfl) T.g_take T.F_take.kp T.b_take .nil pass0 (pa_cons (pv 1) (pa_cons pe_int pa_nil))) pe_int (nomark _)) (pss_one (ps_set (i := 2) sc_law.nd rfl (.inl rfl) pe_str)) pss_nil)
      (pss_cons (ps_set (i := 3) sc_law.nd rfl (.inr rfl) (pe_call (ok_word T) (hr.mono (by first | decide | exact Nat.le_refl _)) (by rfl) T.g_word T.F_word.kp T.b_word .nil pass0 (pa_cons (pv 1) (pa_cons (pv 2) (pa_cons pe_int pa_nil)))))
      (C8.pss_cut (ps_if (pt_cmpR op_eq (pe_call (ok_take T) (hr.mono (by first | decide | exact Nat.le_refl _)) (by rfl) T.g_take T.F_take.kp T.b_take .nil pass0 (pa_cons (pv 1) (pa_cons pe_int pa_nil))) pe_int (nomark _)) (pss_one (ps_set (i := 3) sc_law.nd rfl (.inr rfl) (pe_call (ok_long_word T) (hr.mono (by first | decide | exact Nat.le_refl _)) (by rfl) T.g_long_word T.F_long_word.kp T.b_long_word .nil pass0 (pa_cons (pv 1) (pa_cons (pv 2) (pa_cons (pe_call (ok_between T) (hr.mono (by first | decide | exact Nat.le_refl _)) (by rfl) T.g_between T.F_between.kp T.b_between .nil pass0 (pa_cons (pv 1) (pa_cons pe_int (pa_cons pe_int pa_nil)))) pa_nil)))))) pss_nil)
      (pss_cons (ps_set (i := 4) sc_law.nd rfl (.inl rfl) (pe_op op_add_str (pv 3) (pe_call (ok_word T) (hr.mono (by first | decide | exact Nat.le_refl _)) (by rfl) T.g_word T.F_word.kp T.b_word .nil pass0 (pa_cons (pv 1) (pa_cons (pv 2) (pa_cons pe_int pa_nil))))))
      (pss_cons (ps_set (i := 5) sc_law.nd rfl (.inl rfl) (pe_op op_add_str (pv 3) (pe_call (ok_word T) (hr.mono (by first | decide | exact Nat.le_refl _)) (by rfl) T.g_word T.F_word.kp T.b_word .nil pass0 (pa_cons (pv 1) (pa_cons (pv 2) (pa_cons pe_int pa_nil))))))
      (C8.pss_cut (ps_if (pt_cmpR op_eq (pe_call (ok_take T) (hr.mono (by first | decide | exact Nat.le_refl _)) (by rfl) T.g_take T.F_take.kp T.b_take .nil pass0 (pa_cons (pv 1) (pa_cons pe_int pa_nil))) pe_int (nomark _)) (pss_one (ps_set (i := 5) sc_law.nd rfl (.inl rfl) (pv 4))) pss_nil)
      (pss_cons (ps_set (i := 6) sc_law.nd rfl (.inl rfl) (pe_call (ok_words T) (hr.mono (by first | decide | exact Nat.le_refl _)) (by rfl) T.g_words T.F_words.kp T.b_words .nil pass0 (pa_cons (pv 1) (pa_cons (pv 2) (pa_cons pe_int (pa_cons pe_int pa_nil))))))
      (C8.pss_cut (ps_if (pt_cmpR op_eq (pe_call (ok_take T) (hr.mono (by first | decide | exact Nat.le_refl _)) (by rfl) T.g_take T.F_take.kp T.b_take .nil pass0 (pa_cons (pv 1) (pa_cons pe_int pa_nil))) pe_int (nomark _)) (pss_one (ps_setLc (i := 6) (own := [("word", 10)]) (g := gName 10) rfl sc_law.nd rfl rfl (sw_true rfl rfl rfl (by decide +kernel)) (pi_list (pv 6)) (blkOk_by (N := ["script", "store", "letters", "front", "one", "two", "words", "lag", "more", "prefix", "word"]) (sc := defScope s_law) (by decide +kernel)) (fun _ _ _ _ _ => pg_name (i := 10) sc_law.nd rfl (Or.inl rfl)) (fun _ _ _ _ _ => pts_nil) (fun _ _ _ _ _ => (pe_op op_add_str (pv 3) (pv 10))))) pss_nil)
      (pss_cons (ps_set (i := 7) sc_law.nd rfl (.inl rfl) (pe_call (ok_lag_of T) (hr.mono (by first | decide | exact Nat.le_refl _)) (by rfl) T.g_lag_of T.F_lag_of.kp T.b_lag_of .nil pass0 (pa_cons (pv 4) (pa_cons (pv 5) pa_nil))))
      (pss_cons (ps_if (pt_not (pt_val (pe_call (ok_is_lag_of T) (hr.mono (by first | decide | exact Nat.le_refl _)) (by rfl) T.g_is_lag_of T.F_is_lag_of.kp T.b_is_lag_of .nil pass0 (pa_cons (pv 7) (pa_cons (pv 4) (pa_cons (pv 5) pa_nil)))))) (pss_one (ps_ret pe_bl)) pss_nil)
      (pss_cons (ps_if (PW.pt (pw_or (pt_not (pt_val (pe_call (ok_common_asked T) (hr.mono (by first | decide | exact Nat.le_refl _)) (by rfl) T.g_common_asked T.F_common_asked.kp T.b_common_asked .nil pass0 (pa_cons (pe_lst (pa_cons (pv 4) (pa_cons (pv 5) pa_nil))) pa_nil)))) (pw_or (pt_not (pt_val (pe_call (ok_common_asked T) (hr.mono (by first | decide | exact Nat.le_refl _)) (by rfl) T.g_common_asked T.F_common_asked.kp T.b_common_asked .nil pass0 (pa_cons (pv 6) pa_nil)))) (pw_or1 (pt_not (pt_val (pe_call (ok_common_asked T) (hr.mono (by first | decide | exact Nat.le_refl _)) (by rfl) T.g_common_asked T.F_common_asked.kp T.b_common_asked .nil pass0 (pa_cons (pe_lst (pa_cons (pv 5) pa_nil)) pa_nil)))))))) (pss_one (ps_ret pe_bl)) pss_nil)
      (pss_cons (ps_if (PW.pt (pw_or (pt_not (pt_val (pe_call (ok_same T) (hr.mono (by first | decide | exact Nat.le_refl _)) (by rfl) T.g_same T.F_same.kp T.b_same .nil pass0 (pa_cons (pe_call (ok_common T) (hr.mono (by first | decide | exact Nat.le_refl _)) (by rfl) T.g_common T.F_common.kp T.b_common .nil pass0 (pa_cons (pe_lst (pa_cons (pv 4) (pa_cons (pv 5) pa_nil))) pa_nil)) (pa_cons (pe_slice sl_str (pv 4) po_none (po_some (pe_op op_sub (pe_callB call_len_str (by rfl) T.z_len PySem.boot_len (pa_cons (pv 4) pa_nil)) (pe_callB call_len_str (by rfl) T.z_len PySem.boot_len (pa_cons (pe_ix ix_tup (pv 7) pe_int (fun _ _ => rfl)) pa_nil))))) pa_nil))))) (pw_or1 (pt_not (pt_val (pe_call (ok_same T) (hr.mono (by first | decide | exact Nat.le_refl _)) (by rfl) T.g_same T.F_same.kp T.b_same .nil pass0 (pa_cons (pe_call (ok_common T) (hr.mono (by first | decide | exact Nat.le_refl _)) (by rfl) T.g_common T.F_common.kp T.b_common .nil pass0 (pa_cons (pe_lst (pa_cons (pv 4) pa_nil)) pa_nil)) (pa_cons (pv 4) pa_nil)))))))) (pss_one (ps_ret pe_bl)) pss_nil)
      (pss_cons (ps_if (PW.pt (pw_or (pt_not (pt_val (pe_call (ok_same T) (hr.mono (by first | decide | exact Nat.le_refl _)) (by rfl) T.g_same T.F_same.kp T.b_same .nil pass0 (pa_cons (pe_call (ok_lag_of T) (hr.mono (by first | decide | exact Nat.le_refl _)) (by rfl) T.g_lag_of T.F_lag_of.kp T.b_lag_of .nil pass0 (pa_cons (pv 5) (pa_cons (pv 4) pa_nil))) (pa_cons (pe_tup (pa_cons (pe_ix ix_tup (pv 7) pe_int (fun _ _ => rfl)) (pa_cons (pe_ix ix_tup (pv 7) pe_int (fun _ _ => rfl)) pa_nil))) pa_nil))))) (pw_or1 (pt_not (pt_val (pe_call (ok_same T) (hr.mono (by first | decide | exact Nat.le_refl _)) (by rfl) T.g_same T.F_same.kp T.b_same .nil pass0 (pa_cons (pe_call (ok_common T) (hr.mono (by first | decide | exact Nat.le_refl _)) (by rfl) T.g_common T.F_common.kp T.b_common .nil pass0 (pa_cons (pe_lst pa_nil) pa_nil)) (pa_cons pe_non pa_nil)))))))) (pss_one (ps_ret pe_bl)) pss_nil)
      (pss_cons (ps_set (i := 8) sc_law.nd rfl (.inl rfl) (pe_call (ok_word T) (hr.mono (by first | decide | exact Nat.le_refl _)) (by rfl) T.g_word T.F_word.kp T.b_word .nil pass0 (pa_cons (pv 1) (pa_cons (pv 2) (pa_cons pe_int pa_nil)))))
      (pss_cons (ps_if (PW.pt (pw_or (pt_not (pt_val (pe_call (ok_same T) (hr.mono (by first | decide | exact Nat.le_refl _)) (by rfl) T.g_same T.F_same.kp T.b_same .nil pass0 (pa_cons (pe_call (ok_lag_of T) (hr.mono (by first | decide | exact Nat.le_refl _)) (by rfl) T.g_lag_of T.F_lag_of.kp T.b_lag_of .nil pass0 (pa_cons (pe_op op_add_str (pv 8) (pv 4)) (pa_cons (pe_op op_add_str (pv 8) (pv 5)) pa_nil))) (pa_cons (pv 7) pa_nil))))) (pw_or1 (pt_not (pt_val (pe_call (ok_same T) (hr.mono (by first | decide | exact Nat.le_refl _)) (by rfl) T.g_same T.F_same.kp T.b_same .nil pass0 (pa_cons (pe_call (ok_lag_of T) (hr.mono (by first | decide | exact Nat.le_refl _)) (by rfl) T.g_lag_of T.F_lag_of.kp T.b_lag_of .nil pass0 (pa_cons (pv 4) (pa_cons (pv 4) pa_nil))) (pa_cons (pe_tup (pa_cons pe_str (pa_cons pe_str pa_nil))) pa_nil)))))))) (pss_one (ps_ret pe_bl)) pss_nil)
      (pss_cons (ps_for PassesOwn.never rfl (pi_list (pe_call (ok_prefixes T) (hr.mono (by first | decide | exact Nat.le_refl _)) (by rfl) T.g_prefixes T.F_prefixes.kp T.b_prefixes .nil pass0 (pa_cons (pv 1) (pa_cons (pv 2) (pa_cons (pv 4) (pa_cons (pv 5) pa_nil)))))) (pg_name (i := 9) sc_law.nd rfl (.inl rfl)) (pss_one (ps_if (PW.pt (pw_or (pt_not (pt_val (pe_call (ok_prefix_asked T) (hr.mono (by first | decide | exact Nat.le_refl _)) (by rfl) T.g_prefix_asked T.F_prefix_asked.kp T.b_prefix_asked .nil pass0 (pa_cons (pv 9) (pa_cons (pv 4) pa_nil))))) (pw_or1 (pt_not (pt_val (pe_call (ok_prefix_asked T) (hr.mono (by first | decide | exact Nat.le_refl _)) (by rfl) T.g_prefix_asked T.F_prefix_asked.kp T.b_prefix_asked .nil pass0 (pa_cons (pv 9) (pa_cons (pv 5) pa_nil)))))))) (pss_one (ps_ret pe_bl)) pss_nil)))
      (pss_one (ps_ret (pe_call (ok_same T) (hr.mono (by first | decide | exact Nat.le_refl _)) (by rfl) T.g_same T.F_same.kp T.b_same .nil pass0 (pa_cons (pe_call (ok_lag_of T) (hr.mono (by first | decide | exact Nat.le_refl _)) (by rfl) T.g_lag_of T.F_lag_of.kp T.b_lag_of .nil pass0 (pa_cons (pv 4) (pa_cons (pv 5) pa_nil))) (pa_cons (pv 7) pa_nil))))))))))))))))))))))), ?_⟩
    have ne_t : ∀ {Hx : Hp} {a ca t : Addr} {xs : List V}, Sto Hx a ca → Hx t = some (.tup xs) → t ≠ a := fun S' e z => by
      obtain ⟨_, _, _, _, _, e1, _⟩ := S'
      rw [z, e1] at e
      cases e
    have len5 : ∀ {n : Nat} {k : Int}, (n : Int) ≤ (if k < 0 then 0 else k) → 0 ≤ k → n ≤ k.toNat := fun h k0 => by
      rw [if_neg (by omega)] at h
      omega
    have two_ok : ∀ (x y : V), plainV x = true → plainV y = true → ∀ {Hx : Hp} {t1 t2 : Addr}, Hx t1 = some (.tup [x, y]) → Hx t2 = some (.tup [x, y]) → SameD 4 Hx (.ref t1) (.ref t2) := fun x y px py Hx t1 t2 h1 h2 => by
      refine .inr ⟨t1, t2, _, _, rfl, rfl, .inl ⟨h1, h2⟩, rfl, by show 2 ≤ 1000000; decide, fun i x' y' hx hy => ?_⟩
      rw [hx] at hy
      have e := Option.some.inj hy
      subst e
      refine .inl ⟨rfl, ?_⟩
      match i, hx with
      | 0, hx => rw [← Option.some.inj hx]; exact px
      | 1, hx => rw [← Option.some.inj hx]; exact py
    -- store, letters
    refine ⟨_, rfl, sc, ns, rfl, hS, hlen, fun a ca H1 sm1 na S1 => ?_⟩
    refine ⟨_, rfl, a, ca, 4, rfl, S1, fun z H2 hz B2 S2 => ?_⟩
    refine ⟨fun σ H' => ∃ z : Str, σ = [some (.ref sc), some (.ref a), some (.str z), none, none, none, none, none, none, none, none] ∧ 0 < z.length ∧ z.length ≤ 1000000 ∧ (cs z).Nodup ∧ Sto H' a ca, ?_, ?_⟩
    · refine ⟨_, rfl, a, ca, 4, rfl, S2, by decide, fun d H3 _ _ B3 S3 => ⟨rfl, _, rfl, ite2 (fun _ => ?_) (fun _ => ?_)⟩⟩
      · exact ⟨abc, rfl, by rw [len_abc]; decide, by rw [len_abc]; decide, abc_asc.imp Nat.ne_of_lt, S3⟩
      · exact ⟨z, rfl, hz.len1, Nat.le_trans hz.len4 (by decide), hz.asc.imp Nat.ne_of_lt, S3⟩
    · rintro σ H3 ⟨z, rfl, z0, z1, zn, S3⟩
      -- front
      refine ⟨_, rfl, _, rfl, a, ca, z, 6, rfl, S3, z0, z1, by decide, fun f0 H4 of0 l0 B4 S4 => ?_⟩
      have l0' : f0.length ≤ 6 := len5 l0 (by decide)
      refine ⟨fun σ H' => ∃ f : Str, σ = [some (.ref sc), some (.ref a), some (.str z), some (.str f), none, none, none, none, none, none, none] ∧ f.length ≤ 1500 ∧ Over z f ∧ Sto H' a ca, ?_, ?_⟩
      · refine ⟨_, rfl, a, ca, 40, rfl, S4, by decide, fun d H5 _ _ B5 S5 => ⟨rfl, _, rfl, ite2 (fun _ => ?_) (fun _ => ?_)⟩⟩
        · refine ⟨_, rfl, _, rfl, _, rfl, a, ca, 7, 1500, rfl, S5, by decide, fun r H6 r0 r1 B6 S6 => ?_⟩
          have r1' : r ≤ 1500 ∨ r = 7 := r1
          refine ⟨a, ca, z, r, rfl, S6, z0, z1, by omega, by omega, fun v H7 ov lv B7 S7 => ?_⟩
          refine ⟨v, rfl, ?_, ov, S7⟩
          rw [if_neg (by omega)] at lv
          omega
        · exact ⟨f0, rfl, by omega, of0, S5⟩
      · rintro σ H5 ⟨f, rfl, lf, off, S5⟩
        -- one, two
        refine ⟨_, rfl, _, rfl, _, rfl, a, ca, z, 5, rfl, S5, z0, z1, by decide, fun u1 H6 ou1 lu1 B6 S6 => ?_⟩
        have lu1' : u1.length ≤ 5 := len5 lu1 (by decide)
        refine ⟨_, _, rfl, rfl, small_text (by omega), ?_⟩
        refine ⟨_, rfl, _, rfl, _, rfl, a, ca, z, 5, rfl, S6, z0, z1, by decide, fun u2 H7 ou2 lu2 B7 S7 => ?_⟩
        have lu2' : u2.length ≤ 5 := len5 lu2 (by decide)
        refine ⟨_, _, rfl, rfl, small_text (by omega), ?_⟩
        have lx : (f ++ u1).length ≤ 1505 := by rw [length_app]; omega
        have ox : Over z (f ++ u1) := off.app ou1
        generalize f ++ u1 = x at *
        refine ⟨fun σ H' => ∃ y : Str, σ = [some (.ref sc), some (.ref a), some (.str z), some (.str f), some (.str x), some (.str y), none, none, none, none, none] ∧ y.length ≤ 1505 ∧ Sto H' a ca, ?_, ?_⟩
        · refine ⟨_, rfl, a, ca, 8, rfl, S7, by decide, fun d H8 _ _ B8 S8 => ⟨rfl, _, rfl, ite2 (fun _ => ?_) (fun _ => ?_)⟩⟩
          · exact ⟨_, rfl, x, rfl, lx, S8⟩
          · exact ⟨_, rfl, by rw [length_app]; omega, S8⟩
        · rintro σ H8 ⟨y, rfl, ly, S8⟩
          -- words
          refine ⟨_, rfl, _, rfl, a, ca, z, 6, 5, rfl, S8, z0, z1, by decide, by decide, by decide, by decide, fun ws l H9 hw lw B9 S9 nl nla nlc hl9 => ?_⟩
          have lw' : ws.length ≤ 6 := by
            have : ((ws.length : Nat) : Int) ≤ 6 := lw
            omega
          refine ⟨fun σ H' => ∃ (ws : List Str) (l : Addr), σ = [some (.ref sc), some (.ref a), some (.str z), some (.str f), some (.str x), some (.str y), some (.ref l), none, none, none, none] ∧ H' l = some (.lst (ws.map V.str)) ∧ l ≠ a ∧ ws.length ≤ 6 ∧ (∀ v ∈ ws, v.length ≤ 1000000) ∧ Sto H' a ca, ?_, ?_⟩
          · refine ⟨_, rfl, a, ca, 2, rfl, S9, by decide, fun d H10 _ _ B10 S10 => ⟨rfl, _, rfl, ite2 (fun _ => ?_) (fun _ => ?_)⟩⟩
            · have hl10 := B10 _ _ nla hl9
              refine ⟨_, rfl, l, rfl, ⟨_, .inl (.inl hl10)⟩, fun D hD => ?_⟩
              refine lc_list (K := K) (a := l) (xs := ws.map V.str) (fun n H' => Same H10 H' ∧ H' D = some (.lst (((ws.take n).map fun v => f ++ v).map V.str))) ⟨same_new hD, upd_same⟩ (fun n H' _ h => .inl (.inl (h.1 _ _ hl10))) ?_ ?_
              · rintro n v H11 hv ⟨h1, h2⟩
                rw [List.getElem?_map] at hv
                cases hy : ws[n]? with
                | none =>
                  rw [hy] at hv
                  cases hv
                | some y1 =>
                  rw [hy] at hv
                  have e : V.str y1 = v := Option.some.inj hv
                  subst e
                  have my : y1 ∈ ws := List.mem_of_getElem? hy
                  have ly1 := (hw y1 my).2
                  refine ⟨rfl, _, rfl, _, rfl, _, _, rfl, rfl, small_text (by omega), _, h2, ?_, ?_, ?_⟩
                  · rw [List.length_map, List.length_map, List.length_take]
                    exact Nat.lt_of_lt_of_le (by omega : _ < 1000000) (by decide)
                  · exact (Same.refl _).grown hD h1 h2
                  · rw [upd_same, List.take_add_one, hy, List.map_append, List.map_append]
                    rfl
              · rintro H11 ⟨h1, h2⟩
                rw [List.length_map, List.take_length] at h2
                refine ⟨ws.map fun v => f ++ v, D, rfl, h2, ?_, by rw [List.length_map]; exact lw', ?_, S10.same h1⟩
                · exact (S10.ne hD).1
                · intro v hv
                  obtain ⟨y1, my, rfl⟩ := List.mem_map.mp hv
                  have ly1 := (hw y1 my).2
                  rw [length_app]
                  omega
            · exact ⟨ws, l, rfl, B10 _ _ nla hl9, nla, lw', fun v hv => by have := (hw v hv).2; omega, S10⟩
          · rintro σ H10 ⟨ws, l, rfl, hl10, nla, lw, hw, S10⟩
            -- lag = lag_of(one, two)
            refine ⟨_, rfl, _, rfl, x, y, rfl, by omega, by omega, fun p r t H11 hg sm11 nt ht11 => ?_⟩
            have S11 := S10.same sm11
            have hl11 := sm11 _ _ hl10
            obtain ⟨g, e1, e2, e3⟩ := id hg
            have gl : g.length ≤ x.length := by rw [← cs_len, e1, List.length_append]; omega
            have sx : x.length ≤ sizeLine := small_text (by omega)
            have sy : y.length ≤ sizeLine := small_text (by omega)
            refine ⟨_, rfl, _, rfl, _, rfl, t, p, r, x, y, rfl, ht11, by omega, by omega, hg, _, rfl, iteN rfl ?_⟩
            -- common_asked([one, two]), (words), ([two])
            refine ⟨_, rfl, _, rfl, by show 2 ≤ sizeLine; decide, fun k1 nk1 => ?_⟩
            refine ⟨k1, [x, y], rfl, upd_same, ?_, by show 2 ≤ 1000; decide, fun H12 sm12 => ⟨_, rfl, iteF ?_⟩⟩
            · intro v hv
              simp only [List.mem_cons, List.not_mem_nil, or_false] at hv
              rcases hv with rfl | rfl <;> omega
            have s12 := (same_new (o := .lst [.str x, .str y]) nk1).trans sm12
            refine ⟨_, rfl, l, ws, rfl, s12 _ _ hl11, hw, by omega, fun H13 sm13 => ⟨_, rfl, iteF ?_⟩⟩
            refine ⟨_, rfl, by show 1 ≤ sizeLine; decide, fun k2 nk2 => ?_⟩
            refine ⟨k2, [y], rfl, upd_same, ?_, by show 1 ≤ 1000; decide, fun H14 sm14 => ⟨_, rfl, iteN rfl ?_⟩⟩
            · intro v hv
              rw [List.mem_singleton.mp hv]
              omega
            have s14 := (s12.trans sm13).trans ((same_new (o := .lst [.str y]) nk2).trans sm14)
            have ht14 := s14 _ _ ht11
            -- common([one, two]) is the front, common([one]) the word
            refine ⟨_, rfl, _, rfl, by show 2 ≤ sizeLine; decide, fun k3 nk3 => ?_⟩
            refine ⟨k3, [x, y], rfl, upd_same, ?_, (fun e => by cases e), fun _ c H15 hc lc sm15 => ?_⟩
            · intro v hv
              simp only [List.mem_cons, List.not_mem_nil, or_false] at hv
              rcases hv with rfl | rfl <;> omega
            have s15 := s14.trans ((same_new (o := .lst [.str x, .str y]) nk3).trans sm15)
            have hcg : IsCommon [cs x, cs y] g := IsLag.common e1 e2 e3
            have ec : cs c = g := hc.uniq hcg
            have lp : p.length ≤ x.length := by rw [← cs_len, ← cs_len, e1, List.length_append]; omega
            have ecut : cutS x none (some ((x.length : Int) - (p.length : Int))) = c := by
              rw [front_ok e1]
              apply cs_ext
              rw [cs_mk, ec]
            refine ⟨_, rfl, _, rfl, x, rfl, sx, _, rfl, t, _, _, _, rfl, rfl, .inl (.inl (s15 _ _ ht11)), rfl, p, rfl, small_text (by omega), _, _, rfl, rfl, _, rfl, x, rfl, sx, _, _, rfl, .inl ⟨by rw [ecut], rfl⟩, _, rfl, iteF ?_⟩
            refine ⟨_, rfl, by show 1 ≤ sizeLine; decide, fun k4 nk4 => ?_⟩
            refine ⟨k4, [x], rfl, upd_same, ?_, (fun e => by cases e), fun _ c' H16 hc' _ sm16 => ?_⟩
            · intro v hv
              rw [List.mem_singleton.mp hv]
              omega
            have s16 := s15.trans ((same_new (o := .lst [.str x]) nk4).trans sm16)
            have ec' : c' = x := cs_ext (hc'.uniq (IsCommon.one (cs x)))
            refine ⟨_, rfl, _, _, rfl, .inl ⟨by rw [ec'], rfl⟩, _, rfl, iteN rfl ?_⟩
            -- the sides exchanged; common([])
            refine ⟨_, rfl, _, rfl, y, x, rfl, by omega, by omega, fun p2 r2 t2 H17 hg2 sm17 nt2 ht2 => ?_⟩
            have eq2 := hg2.swap.uniq hg
            have e4 := cs_ext eq2.1
            have e5 := cs_ext eq2.2
            subst e4
            subst e5
            have s17 := s16.trans sm17
            have ht17 := s17 _ _ ht11
            refine ⟨_, rfl, t, _, _, _, rfl, rfl, .inl (.inl ht17), rfl, _, rfl, t, _, _, _, rfl, rfl, .inl (.inl ht17), rfl, by show 2 ≤ sizeLine; decide, fun t3 nt3 => ?_⟩
            refine ⟨_, _, rfl, two_ok _ _ rfl rfl (same_new nt3 _ _ ht2) upd_same, _, rfl, iteF ?_⟩
            refine ⟨Nat.zero_le _, fun k5 nk5 => ?_⟩
            refine ⟨k5, [], rfl, upd_same, fun v hv => absurd hv List.not_mem_nil, fun _ => ?_, fun n => absurd rfl n⟩
            refine ⟨_, _, rfl, .inl ⟨rfl, rfl⟩, _, rfl, iteN rfl ?_⟩
            have s18 := (s17.trans (same_new (o := .tup [.str p2, .str r2]) nt3)).trans (same_new (o := .lst []) nk5)
            -- more
            have S18 := S11.same s18
            refine ⟨_, rfl, _, rfl, a, ca, z, 4, rfl, S18, z0, z1, by decide, fun m H19 _ lm B19 S19 => ?_⟩
            have lm' : m.length ≤ 4 := len5 lm (by decide)
            have ht18 := s18 _ _ ht11
            have ht19 := B19 _ _ (ne_t S18 ht18) ht18
            refine ⟨_, rfl, _, rfl, _, _, rfl, rfl, small_text (by omega), _, rfl, _, rfl, _, _, rfl, rfl, small_text (by omega), m ++ x, m ++ y, rfl, by rw [length_app]; omega, by rw [length_app]; omega, fun p3 r3 t4 H20 hg3 sm20 nt4 ht4 => ?_⟩
            rw [cs_app, cs_app] at hg3
            have eq3 := hg3.uniq (hg.front (cs m))
            have e6 := cs_ext eq3.1
            have e7 := cs_ext eq3.2
            subst e6
            subst e7
            have ht20 := sm20 _ _ ht19
            refine ⟨_, rfl, _, _, rfl, two_ok _ _ rfl rfl ht4 ht20, _, rfl, iteF ?_⟩
            refine ⟨_, rfl, _, rfl, x, x, rfl, by omega, by omega, fun p4 r4 t5 H21 hg4 sm21 nt5 ht5 => ?_⟩
            have eq4 := hg4.uniq (⟨cs x, by rw [List.append_nil], by rw [List.append_nil], .inl rfl⟩ : IsLag (cs x) (cs x) [] [])
            have e8 : p4 = Str.ofString "" := cs_ext (eq4.1.trans cs_empty.symm)
            have e9 : r4 = Str.ofString "" := cs_ext (eq4.2.trans cs_empty.symm)
            subst e8
            subst e9
            refine ⟨by show 2 ≤ sizeLine; decide, fun t6 nt6 => ?_⟩
            refine ⟨_, _, rfl, two_ok _ _ rfl rfl (same_new nt6 _ _ ht5) upd_same, _, rfl, iteN rfl ?_⟩
            have s22 := (sm20.trans sm21).trans (same_new (o := .tup [.str (Str.ofString ""), .str (Str.ofString "")]) nt6)
            have S22 := S19.same s22
            have ht22 := s22 _ _ ht19
            -- the prefixes
            refine ⟨_, rfl, _, rfl, _, rfl, _, rfl, a, ca, z, x, y, rfl, S22, z0, z1, zn, by omega, by omega, ox, fun us pl H23 hus B23 S23 npl npla hpl => ?_⟩
            have ht23 := B23 _ _ (ne_t S22 ht22) ht22
            refine ⟨pl, rfl, ⟨_, .inl (.inl hpl)⟩, for_list (K := K) (a := pl) (xs := us.map V.str) (fun i σ H' => ∃ yp : Option V, H' = H23 ∧ σ = [some (.ref sc), some (.ref a), some (.str z), some (.str f), some (.str x), some (.str y), some (.ref l), some (.ref t), some (.str m), yp, none]) ⟨none, rfl, rfl⟩ (fun i σ H' _ h => by obtain ⟨_, rfl, _⟩ := h; exact .inl (.inl hpl)) ?_ ?_⟩
            · rintro i v σ H24 hv ⟨yp, rfl, rfl⟩
              rw [List.getElem?_map] at hv
              cases hy : us[i]? with
              | none =>
                rw [hy] at hv
                cases hv
              | some u =>
                rw [hy] at hv
                have e : V.str u = v := Option.some.inj hv
                subst e
                have mu := hus u (List.mem_of_getElem? hy)
                exact ⟨_, rfl, _, rfl, u, x, rfl, mu, by omega, _, rfl, iteF ⟨_, rfl, _, rfl, u, y, rfl, mu, by omega, _, rfl, iteN rfl ⟨_, rfl, rfl⟩⟩⟩
            · rintro σ H24 ⟨yp, rfl, rfl⟩
              refine ⟨_, rfl, _, rfl, x, y, rfl, by omega, by omega, fun p6 r6 t7 H25 hg6 sm25 nt7 ht7 => ?_⟩
              have eq6 := hg6.uniq hg
              have f1 := cs_ext eq6.1
              have f2 := cs_ext eq6.2
              subst f1
              subst f2
              exact ⟨_, rfl, _, _, rfl, two_ok _ _ rfl rfl ht7 (sm25 _ _ ht23), q _⟩

end
theorem all_mk {l : PySem.W.OpenLaw} {w : World} {K : PySem.W.Frag} {h : Heap} {mg : Str → Option Value} {names : List Str} {fa f0 f1 f2 f3 f4 f5 f6 f7 f8 f9 f10 f11 f12 f13 f14 f15 f16 f17 f18 f19 f20 : Addr} (X : K.In h) (G : h.Ns mainGlobals mg) (hfa : mg "law" = some (.ref fa)) (E : Empty names K mg h)
    {od0 an0 od1 an1 od2 an2 od3 an3 od4 an4 od5 an5 od6 an6 od7 an7 od8 an8 od9 an9 od10 an10 od11 an11 od12 an12 od13 an13 od14 an14 od15 an15 od16 an16 od17 an17 od18 an18 od19 an19 od20 an20 : Option Addr} {sl0 sl1 sl2 sl3 sl4 sl5 sl6 sl7 sl8 sl9 sl10 sl11 sl12 sl13 sl14 sl15 sl16 sl17 sl18 sl19 sl20 : Array (Option Value)} {oc0 kV0 dc0 pm0 ct0 cd0 oc1 kV1 dc1 pm1 ct1 cd1 oc2 kV2 dc2 pm2 ct2 cd2 oc3 kV3 dc3 pm3 ct3 cd3 oc4 kV4 dc4 pm4 ct4 cd4 oc5 kV5 dc5 pm5 ct5 cd5 oc6 kV6 dc6 pm6 ct6 cd6 oc7 kV7 dc7 pm7 ct7 cd7 oc8 kV8 dc8 pm8 ct8 cd8 oc9 kV9 dc9 pm9 ct9 cd9 oc10 kV10 dc10 pm10 ct10 cd10 oc11 kV11 dc11 pm11 ct11 cd11 oc12 kV12 dc12 pm12 ct12 cd12 oc13 kV13 dc13 pm13 ct13 cd13 oc14 kV14 dc14 pm14 ct14 cd14 oc15 kV15 dc15 pm15 ct15 cd15 oc16 kV16 dc16 pm16 ct16 cd16 oc17 kV17 dc17 pm17 ct17 cd17 oc18 kV18 dc18 pm18 ct18 cd18 oc19 kV19 dc19 pm19 ct19 cd19 oc20 kV20 dc20 pm20 ct20 cd20 : Value}
    (a0 : PySem.W.nsIn K mainGlobals "shared_length" = some (some (.ref f0))) (l0 : K.lookup f0 = some ⟨oc0, od0, .func (PySem.W.fnOf "shared_length" "shared_length" (defArgs s_shared_length) (defBody s_shared_length) (defScope s_shared_length) .none kV0 dc0 pm0 an0 cd0 ct0), sl0⟩) (k0 : PySem.W.keepIn K (.ref f0) = true) (c_0 : PySem.W.codeIn K cd0 "shared_length" = true)
    (a1 : PySem.W.nsIn K mainGlobals "common" = some (some (.ref f1))) (l1 : K.lookup f1 = some ⟨oc1, od1, .func (PySem.W.fnOf "common" "common" (defArgs s_common) (defBody s_common) (defScope s_common) .none kV1 dc1 pm1 an1 cd1 ct1), sl1⟩) (k1 : PySem.W.keepIn K (.ref f1) = true) (c_1 : PySem.W.codeIn K cd1 "common" = true)
    (a2 : PySem.W.nsIn K mainGlobals "starts" = some (some (.ref f2))) (l2 : K.lookup f2 = some ⟨oc2, od2, .func (PySem.W.fnOf "starts" "starts" (defArgs s_starts) (defBody s_starts) (defScope s_starts) .none kV2 dc2 pm2 an2 cd2 ct2), sl2⟩) (k2 : PySem.W.keepIn K (.ref f2) = true) (c_2 : PySem.W.codeIn K cd2 "starts" = true)
    (a3 : PySem.W.nsIn K mainGlobals "cut" = some (some (.ref f3))) (l3 : K.lookup f3 = some ⟨oc3, od3, .func (PySem.W.fnOf "cut" "cut" (defArgs s_cut) (defBody s_cut) (defScope s_cut) .none kV3 dc3 pm3 an3 cd3 ct3), sl3⟩) (k3 : PySem.W.keepIn K (.ref f3) = true) (c_3 : PySem.W.codeIn K cd3 "cut" = true)
    (a4 : PySem.W.nsIn K mainGlobals "lag_of" = some (some (.ref f4))) (l4 : K.lookup f4 = some ⟨oc4, od4, .func (PySem.W.fnOf "lag_of" "lag_of" (defArgs s_lag_of) (defBody s_lag_of) (defScope s_lag_of) .none kV4 dc4 pm4 an4 cd4 ct4), sl4⟩) (k4 : PySem.W.keepIn K (.ref f4) = true) (c_4 : PySem.W.codeIn K cd4 "lag_of" = true)
    (a5 : PySem.W.nsIn K mainGlobals "_law_mix" = some (some (.ref f5))) (l5 : K.lookup f5 = some ⟨oc5, od5, .func (PySem.W.fnOf "_law_mix" "_law_mix" (defArgs s_mix) (defBody s_mix) (defScope s_mix) .none kV5 dc5 pm5 an5 cd5 ct5), sl5⟩) (k5 : PySem.W.keepIn K (.ref f5) = true) (c_5 : PySem.W.codeIn K cd5 "_law_mix" = true)
    (a6 : PySem.W.nsIn K mainGlobals "_law_store" = some (some (.ref f6))) (l6 : K.lookup f6 = some ⟨oc6, od6, .func (PySem.W.fnOf "_law_store" "_law_store" (defArgs s_store) (defBody s_store) (defScope s_store) .none kV6 dc6 pm6 an6 cd6 ct6), sl6⟩) (k6 : PySem.W.keepIn K (.ref f6) = true) (c_6 : PySem.W.codeIn K cd6 "_law_store" = true)
    (a7 : PySem.W.nsIn K mainGlobals "_law_take" = some (some (.ref f7))) (l7 : K.lookup f7 = some ⟨oc7, od7, .func (PySem.W.fnOf "_law_take" "_law_take" (defArgs s_take) (defBody s_take) (defScope s_take) .none kV7 dc7 pm7 an7 cd7 ct7), sl7⟩) (k7 : PySem.W.keepIn K (.ref f7) = true) (c_7 : PySem.W.codeIn K cd7 "_law_take" = true)
    (a8 : PySem.W.nsIn K mainGlobals "_law_pick" = some (some (.ref f8))) (l8 : K.lookup f8 = some ⟨oc8, od8, .func (PySem.W.fnOf "_law_pick" "_law_pick" (defArgs s_pick) (defBody s_pick) (defScope s_pick) .none kV8 dc8 pm8 an8 cd8 ct8), sl8⟩) (k8 : PySem.W.keepIn K (.ref f8) = true) (c_8 : PySem.W.codeIn K cd8 "_law_pick" = true)
    (a9 : PySem.W.nsIn K mainGlobals "_law_between" = some (some (.ref f9))) (l9 : K.lookup f9 = some ⟨oc9, od9, .func (PySem.W.fnOf "_law_between" "_law_between" (defArgs s_between) (defBody s_between) (defScope s_between) .none kV9 dc9 pm9 an9 cd9 ct9), sl9⟩) (k9 : PySem.W.keepIn K (.ref f9) = true) (c_9 : PySem.W.codeIn K cd9 "_law_between" = true)
    (a10 : PySem.W.nsIn K mainGlobals "_law_letters" = some (some (.ref f10))) (l10 : K.lookup f10 = some ⟨oc10, od10, .func (PySem.W.fnOf "_law_letters" "_law_letters" (defArgs s_letters) (defBody s_letters) (defScope s_letters) .none kV10 dc10 pm10 an10 cd10 ct10), sl10⟩) (k10 : PySem.W.keepIn K (.ref f10) = true) (c_10 : PySem.W.codeIn K cd10 "_law_letters" = true)
    (a11 : PySem.W.nsIn K mainGlobals "_law_word" = some (some (.ref f11))) (l11 : K.lookup f11 = some ⟨oc11, od11, .func (PySem.W.fnOf "_law_word" "_law_word" (defArgs s_word) (defBody s_word) (defScope s_word) .none kV11 dc11 pm11 an11 cd11 ct11), sl11⟩) (k11 : PySem.W.keepIn K (.ref f11) = true) (c_11 : PySem.W.codeIn K cd11 "_law_word" = true)
    (a12 : PySem.W.nsIn K mainGlobals "_law_long_word" = some (some (.ref f12))) (l12 : K.lookup f12 = some ⟨oc12, od12, .func (PySem.W.fnOf "_law_long_word" "_law_long_word" (defArgs s_long_word) (defBody s_long_word) (defScope s_long_word) .none kV12 dc12 pm12 an12 cd12 ct12), sl12⟩) (k12 : PySem.W.keepIn K (.ref f12) = true) (c_12 : PySem.W.codeIn K cd12 "_law_long_word" = true)
    (a13 : PySem.W.nsIn K mainGlobals "_law_unlike_word" = some (some (.ref f13))) (l13 : K.lookup f13 = some ⟨oc13, od13, .func (PySem.W.fnOf "_law_unlike_word" "_law_unlike_word" (defArgs s_unlike_word) (defBody s_unlike_word) (defScope s_unlike_word) .none kV13 dc13 pm13 an13 cd13 ct13), sl13⟩) (k13 : PySem.W.keepIn K (.ref f13) = true) (c_13 : PySem.W.codeIn K cd13 "_law_unlike_word" = true)
    (a14 : PySem.W.nsIn K mainGlobals "_law_words" = some (some (.ref f14))) (l14 : K.lookup f14 = some ⟨oc14, od14, .func (PySem.W.fnOf "_law_words" "_law_words" (defArgs s_words) (defBody s_words) (defScope s_words) .none kV14 dc14 pm14 an14 cd14 ct14), sl14⟩) (k14 : PySem.W.keepIn K (.ref f14) = true) (c_14 : PySem.W.codeIn K cd14 "_law_words" = true)
    (a15 : PySem.W.nsIn K mainGlobals "_law_same" = some (some (.ref f15))) (l15 : K.lookup f15 = some ⟨oc15, od15, .func (PySem.W.fnOf "_law_same" "_law_same" (defArgs s_same) (defBody s_same) (defScope s_same) .none kV15 dc15 pm15 an15 cd15 ct15), sl15⟩) (k15 : PySem.W.keepIn K (.ref f15) = true) (c_15 : PySem.W.codeIn K cd15 "_law_same" = true)
    (a16 : PySem.W.nsIn K mainGlobals "_law_is_lag_of" = some (some (.ref f16))) (l16 : K.lookup f16 = some ⟨oc16, od16, .func (PySem.W.fnOf "_law_is_lag_of" "_law_is_lag_of" (defArgs s_is_lag_of) (defBody s_is_lag_of) (defScope s_is_lag_of) .none kV16 dc16 pm16 an16 cd16 ct16), sl16⟩) (k16 : PySem.W.keepIn K (.ref f16) = true) (c_16 : PySem.W.codeIn K cd16 "_law_is_lag_of" = true)
    (a17 : PySem.W.nsIn K mainGlobals "_law_common_asked" = some (some (.ref f17))) (l17 : K.lookup f17 = some ⟨oc17, od17, .func (PySem.W.fnOf "_law_common_asked" "_law_common_asked" (defArgs s_common_asked) (defBody s_common_asked) (defScope s_common_asked) .none kV17 dc17 pm17 an17 cd17 ct17), sl17⟩) (k17 : PySem.W.keepIn K (.ref f17) = true) (c_17 : PySem.W.codeIn K cd17 "_law_common_asked" = true)
    (a18 : PySem.W.nsIn K mainGlobals "_law_prefix_asked" = some (some (.ref f18))) (l18 : K.lookup f18 = some ⟨oc18, od18, .func (PySem.W.fnOf "_law_prefix_asked" "_law_prefix_asked" (defArgs s_prefix_asked) (defBody s_prefix_asked) (defScope s_prefix_asked) .none kV18 dc18 pm18 an18 cd18 ct18), sl18⟩) (k18 : PySem.W.keepIn K (.ref f18) = true) (c_18 : PySem.W.codeIn K cd18 "_law_prefix_asked" = true)
    (a19 : PySem.W.nsIn K mainGlobals "_law_prefixes" = some (some (.ref f19))) (l19 : K.lookup f19 = some ⟨oc19, od19, .func (PySem.W.fnOf "_law_prefixes" "_law_prefixes" (defArgs s_prefixes) (defBody s_prefixes) (defScope s_prefixes) .none kV19 dc19 pm19 an19 cd19 ct19), sl19⟩) (k19 : PySem.W.keepIn K (.ref f19) = true) (c_19 : PySem.W.codeIn K cd19 "_law_prefixes" = true)
    (a20 : PySem.W.nsIn K mainGlobals "law" = some (some (.ref f20))) (l20 : K.lookup f20 = some ⟨oc20, od20, .func (PySem.W.fnOf "law" "law" (defArgs s_law) (defBody s_law) (defScope s_law) .none kV20 dc20 pm20 an20 cd20 ct20), sl20⟩) (k20 : PySem.W.keepIn K (.ref f20) = true) (c_20 : PySem.W.codeIn K cd20 "law" = true)
    (z_bool : PySem.W.nsIn K mainGlobals "bool" = some none)
    (z_int : PySem.W.nsIn K mainGlobals "int" = some none)
    (z_isinstance : PySem.W.nsIn K mainGlobals "isinstance" = some none)
    (z_len : PySem.W.nsIn K mainGlobals "len" = some none)
    (z_list : PySem.W.nsIn K mainGlobals "list" = some none)
    (z_max : PySem.W.nsIn K mainGlobals "max" = some none)
    (z_min : PySem.W.nsIn K mainGlobals "min" = some none)
    (z_range : PySem.W.nsIn K mainGlobals "range" = some none)
    (z_str : PySem.W.nsIn K mainGlobals "str" = some none)
    (z_tuple : PySem.W.nsIn K mainGlobals "tuple" = some none)
    (one : ∀ p ∈ ([] : List (Addr × Str)), ∀ q ∈ ([] : List (Addr × Str)), p.1 = q.1 → p.2 = q.2) : LamX.LawAtS l w K CX0 (6 + 1) 63 "script" mg fa h := by
  have e := hfa.symm.trans (PySem.W.mg_of X G a20)
  cases e
  have F0 := fun_mk (st := s_shared_length) l0 c_0 k0
  have b0 := F0.binds (ps := ["first", "second"]) fun _ _ _ _ _ _ us hl => match us, hl with | [_, _], _ => rfl
  have F1 := fun_mk (st := s_common) l1 c_1 k1
  have b1 := F1.binds (ps := ["words"]) fun _ _ _ _ _ _ us hl => match us, hl with | [_], _ => rfl
  have F2 := fun_mk (st := s_starts) l2 c_2 k2
  have b2 := F2.binds (ps := ["prefix", "word"]) fun _ _ _ _ _ _ us hl => match us, hl with | [_, _], _ => rfl
  have F3 := fun_mk (st := s_cut) l3 c_3 k3
  have b3 := F3.binds (ps := ["prefix", "word"]) fun _ _ _ _ _ _ us hl => match us, hl with | [_, _], _ => rfl
  have F4 := fun_mk (st := s_lag_of) l4 c_4 k4
  have b4 := F4.binds (ps := ["first", "second"]) fun _ _ _ _ _ _ us hl => match us, hl with | [_, _], _ => rfl
  have F5 := fun_mk (st := s_mix) l5 c_5 k5
  have b5 := F5.binds (ps := ["number", "tick"]) fun _ _ _ _ _ _ us hl => match us, hl with | [_, _], _ => rfl
  have F6 := fun_mk (st := s_store) l6 c_6 k6
  have b6 := F6.binds (ps := ["script"]) fun _ _ _ _ _ _ us hl => match us, hl with | [_], _ => rfl
  have F7 := fun_mk (st := s_take) l7 c_7 k7
  have b7 := F7.binds (ps := ["store", "many"]) fun _ _ _ _ _ _ us hl => match us, hl with | [_, _], _ => rfl
  have F8 := fun_mk (st := s_pick) l8 c_8 k8
  have b8 := F8.binds (ps := ["store", "row"]) fun _ _ _ _ _ _ us hl => match us, hl with | [_, _], _ => rfl
  have F9 := fun_mk (st := s_between) l9 c_9 k9
  have b9 := F9.binds (ps := ["store", "low", "high"]) fun _ _ _ _ _ _ us hl => match us, hl with | [_, _, _], _ => rfl
  have F10 := fun_mk (st := s_letters) l10 c_10 k10
  have b10 := F10.binds (ps := ["store", "limit"]) fun _ _ _ _ _ _ us hl => match us, hl with | [_, _], _ => rfl
  have F11 := fun_mk (st := s_word) l11 c_11 k11
  have b11 := F11.binds (ps := ["store", "letters", "limit"]) fun _ _ _ _ _ _ us hl => match us, hl with | [_, _, _], _ => rfl
  have F12 := fun_mk (st := s_long_word) l12 c_12 k12
  have b12 := F12.binds (ps := ["store", "letters", "size"]) fun _ _ _ _ _ _ us hl => match us, hl with | [_, _, _], _ => rfl
  have F13 := fun_mk (st := s_unlike_word) l13 c_13 k13
  have b13 := F13.binds (ps := ["store", "letters", "word"]) fun _ _ _ _ _ _ us hl => match us, hl with | [_, _, _], _ => rfl
  have F14 := fun_mk (st := s_words) l14 c_14 k14
  have b14 := F14.binds (ps := ["store", "letters", "size", "limit"]) fun _ _ _ _ _ _ us hl => match us, hl with | [_, _, _, _], _ => rfl
  have F15 := fun_mk (st := s_same) l15 c_15 k15
  have b15 := F15.binds (ps := ["actual", "expected"]) fun _ _ _ _ _ _ us hl => match us, hl with | [_, _], _ => rfl
  have F16 := fun_mk (st := s_is_lag_of) l16 c_16 k16
  have b16 := F16.binds (ps := ["lag", "one", "two"]) fun _ _ _ _ _ _ us hl => match us, hl with | [_, _, _], _ => rfl
  have F17 := fun_mk (st := s_common_asked) l17 c_17 k17
  have b17 := F17.binds (ps := ["words"]) fun _ _ _ _ _ _ us hl => match us, hl with | [_], _ => rfl
  have F18 := fun_mk (st := s_prefix_asked) l18 c_18 k18
  have b18 := F18.binds (ps := ["prefix", "word"]) fun _ _ _ _ _ _ us hl => match us, hl with | [_, _], _ => rfl
  have F19 := fun_mk (st := s_prefixes) l19 c_19 k19
  have b19 := F19.binds (ps := ["store", "letters", "one", "two"]) fun _ _ _ _ _ _ us hl => match us, hl with | [_, _, _, _], _ => rfl
  have F20 := fun_mk (st := s_law) l20 c_20 k20
  have b20 := F20.binds (ps := ["script"]) fun _ _ _ _ _ _ us hl => match us, hl with | [_], _ => rfl
  letI : Tabl := ⟨([] : List (Addr × Str)), one⟩
  refine ⟨_, [], sp_law K, (fun _ h => nomatch h), (fun _ h => nomatch h), (fun _ h => nomatch h), fun s v => .of_eq rfl, fun H a ns hl _ hT hS => ⟨a, ns, rfl, hS, hl, (fun _ h => nomatch h), fun _ => rfl⟩, fun base _ _ tb => ok_law (K := K) (mg := mg) { f_shared_length := _, fd_shared_length := _, F_shared_length := F0, b_shared_length := b0, g_shared_length := PySem.W.mg_of X G a0, f_common := _, fd_common := _, F_common := F1, b_common := b1, g_common := PySem.W.mg_of X G a1, f_starts := _, fd_starts := _, F_starts := F2, b_starts := b2, g_starts := PySem.W.mg_of X G a2, f_cut := _, fd_cut := _, F_cut := F3, b_cut := b3, g_cut := PySem.W.mg_of X G a3, f_lag_of := _, fd_lag_of := _, F_lag_of := F4, b_lag_of := b4, g_lag_of := PySem.W.mg_of X G a4, f_mix := _, fd_mix := _, F_mix := F5, b_mix := b5, g_mix := PySem.W.mg_of X G a5, f_store := _, fd_store := _, F_store := F6, b_store := b6, g_store := PySem.W.mg_of X G a6, f_take := _, fd_take := _, F_take := F7, b_take := b7, g_take := PySem.W.mg_of X G a7, f_pick := _, fd_pick := _, F_pick := F8, b_pick := b8, g_pick := PySem.W.mg_of X G a8, f_between := _, fd_between := _, F_between := F9, b_between := b9, g_between := PySem.W.mg_of X G a9, f_letters := _, fd_letters := _, F_letters := F10, b_letters := b10, g_letters := PySem.W.mg_of X G a10, f_word := _, fd_word := _, F_word := F11, b_word := b11, g_word := PySem.W.mg_of X G a11, f_long_word := _, fd_long_word := _, F_long_word := F12, b_long_word := b12, g_long_word := PySem.W.mg_of X G a12, f_unlike_word := _, fd_unlike_word := _, F_unlike_word := F13, b_unlike_word := b13, g_unlike_word := PySem.W.mg_of X G a13, f_words := _, fd_words := _, F_words := F14, b_words := b14, g_words := PySem.W.mg_of X G a14, f_same := _, fd_same := _, F_same := F15, b_same := b15, g_same := PySem.W.mg_of X G a15, f_is_lag_of := _, fd_is_lag_of := _, F_is_lag_of := F16, b_is_lag_of := b16, g_is_lag_of := PySem.W.mg_of X G a16, f_common_asked := _, fd_common_asked := _, F_common_asked := F17, b_common_asked := b17, g_common_asked := PySem.W.mg_of X G a17, f_prefix_asked := _, fd_prefix_asked := _, F_prefix_asked := F18, b_prefix_asked := b18, g_prefix_asked := PySem.W.mg_of X G a18, f_prefixes := _, fd_prefixes := _, F_prefixes := F19, b_prefixes := b19, g_prefixes := PySem.W.mg_of X G a19, f_law := _, fd_law := _, F_law := F20, b_law := b20, g_law := PySem.W.mg_of X G a20, z_bool := PySem.W.mg_none_of X G z_bool, z_int := PySem.W.mg_none_of X G z_int, z_isinstance := PySem.W.mg_none_of X G z_isinstance, z_len := PySem.W.mg_none_of X G z_len, z_list := PySem.W.mg_none_of X G z_list, z_max := PySem.W.mg_none_of X G z_max, z_min := PySem.W.mg_none_of X G z_min, z_range := PySem.W.mg_none_of X G z_range, z_str := PySem.W.mg_none_of X G z_str, z_tuple := PySem.W.mg_none_of X G z_tuple }⟩
end Lb
open PySem PySem.W PyProof.Rows
set_option maxHeartbeats 0 in
theorem PySem.Challenge.cw_lagbound_k01_lag_of_words_holds : PySem.Challenge.rw_lagbound_k01_lag_of_words.Holds := by
  w_on; o_law; k_head; (case hw => w_witness2)
  k_fill
  refine Lb.walk_tabs (l := PySem.Challenge.rw_lagbound_k01_lag_of_words) (n := 63) (k := 6 + 1) (x := "script") (CX := fun _ => L2.CX0) rfl (by decide) rfl ⟨rfl, by decide, by decide⟩ (fun w h Y => by first | exact PySem.W.kIn_of Y | exact Y.1) ?F (fun _ _ _ _ _ h => h)
  case F =>
    intro w mg fa h KX G hmg E
    refine' Lb.all_mk KX G hmg E ?a0 ?l0 ?k0 ?c_0 ?a1 ?l1 ?k1 ?c_1 ?a2 ?l2 ?k2 ?c_2 ?a3 ?l3 ?k3 ?c_3 ?a4 ?l4 ?k4 ?c_4 ?a5 ?l5 ?k5 ?c_5 ?a6 ?l6 ?k6 ?c_6 ?a7 ?l7 ?k7 ?c_7 ?a8 ?l8 ?k8 ?c_8 ?a9 ?l9 ?k9 ?c_9 ?a10 ?l10 ?k10 ?c_10 ?a11 ?l11 ?k11 ?c_11 ?a12 ?l12 ?k12 ?c_12 ?a13 ?l13 ?k13 ?c_13 ?a14 ?l14 ?k14 ?c_14 ?a15 ?l15 ?k15 ?c_15 ?a16 ?l16 ?k16 ?c_16 ?a17 ?l17 ?k17 ?c_17 ?a18 ?l18 ?k18 ?c_18 ?a19 ?l19 ?k19 ?c_19 ?a20 ?l20 ?k20 ?c_20 ?z_bool ?z_int ?z_isinstance ?z_len ?z_list ?z_max ?z_min ?z_range ?z_str ?z_tuple ?one
    (case a0 => k_is)
    (case l0 => k_is)
    (case k0 => k_is)
    (case c_0 => k_is)
    (case a1 => k_is)
    (case l1 => k_is)
    (case k1 => k_is)
    (case c_1 => k_is)
    (case a2 => k_is)
    (case l2 => k_is)
    (case k2 => k_is)
    (case c_2 => k_is)
    (case a3 => k_is)
    (case l3 => k_is)
    (case k3 => k_is)
    (case c_3 => k_is)
    (case a4 => k_is)
    (case l4 => k_is)
    (case k4 => k_is)
    (case c_4 => k_is)
    (case a5 => k_is)
    (case l5 => k_is)
    (case k5 => k_is)
    (case c_5 => k_is)
    (case a6 => k_is)
    (case l6 => k_is)
    (case k6 => k_is)
    (case c_6 => k_is)
    (case a7 => k_is)
    (case l7 => k_is)
    (case k7 => k_is)
    (case c_7 => k_is)
    (case a8 => k_is)
    (case l8 => k_is)
    (case k8 => k_is)
    (case c_8 => k_is)
    (case a9 => k_is)
    (case l9 => k_is)
    (case k9 => k_is)
    (case c_9 => k_is)
    (case a10 => k_is)
    (case l10 => k_is)
    (case k10 => k_is)
    (case c_10 => k_is)
    (case a11 => k_is)
    (case l11 => k_is)
    (case k11 => k_is)
    (case c_11 => k_is)
    (case a12 => k_is)
    (case l12 => k_is)
    (case k12 => k_is)
    (case c_12 => k_is)
    (case a13 => k_is)
    (case l13 => k_is)
    (case k13 => k_is)
    (case c_13 => k_is)
    (case a14 => k_is)
    (case l14 => k_is)
    (case k14 => k_is)
    (case c_14 => k_is)
    (case a15 => k_is)
    (case l15 => k_is)
    (case k15 => k_is)
    (case c_15 => k_is)
    (case a16 => k_is)
    (case l16 => k_is)
    (case k16 => k_is)
    (case c_16 => k_is)
    (case a17 => k_is)
    (case l17 => k_is)
    (case k17 => k_is)
    (case c_17 => k_is)
    (case a18 => k_is)
    (case l18 => k_is)
    (case k18 => k_is)
    (case c_18 => k_is)
    (case a19 => k_is)
    (case l19 => k_is)
    (case k19 => k_is)
    (case c_19 => k_is)
    (case a20 => k_is)
    (case l20 => k_is)
    (case k20 => k_is)
    (case c_20 => k_is)
    (case z_bool => k_is)
    (case z_int => k_is)
    (case z_isinstance => k_is)
    (case z_len => k_is)
    (case z_list => k_is)
    (case z_max => k_is)
    (case z_min => k_is)
    (case z_range => k_is)
    (case z_str => k_is)
    (case z_tuple => k_is)
    (case one => exact fun _ h => nomatch h)
