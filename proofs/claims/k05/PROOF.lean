import PyProof.Rows.All
import Wide.All
import OpenK.AllK
import Wide.FinOn
import HandS.Base
import HandS.Call
import HandS.List
import HandS.Ends
import HandS.Words
import HandS.Exc
import HandS.ExcOwn
import HandS.WordsExc
import HandS.Lambda
import HandS.TupAny
import HandS.Text
import HandS.Deep
import HandS.Flow
import HandS.Wide
import HandS.Iter
import HandS.Comp
import KE.GoesMore
import HandS.Property
import HandS.ClsMeth
import HandS.MakeKw
import HandS.IsInst
import HandS.FStr
import HandS.HotCalls
import HandS.ExcCtx
import HandS.Defaults
import PyProof.CallStr
import PyProof.ReprRoads
import HandS.OwnEq
import HandS.RaiseMore
import PyProof.EqKinds
import HandS.Small
import HandS.Star
import HandS.Head0
import HandS.Head1
import HandS.Head2
import HandS.HeadHook2
import HandS.Style
import HandS.Dict
import KE.KDictPairs
import PyProof.Rows.SortStr
import HandS.ExcInit
import KE.KExcInit
import KE.KTryMore
import HandS.ExcIs
import HandS.ExcField
import HandS.EndTab
import PyProof.Rows.ReprOcc
import PyProof.Rows.RegFStrParts
import PyProof.StrLawsRepr
import PySem.Challenge.RW_offerlists_k05_lists_at_their_beginning
set_option Elab.async false
set_option linter.all false
set_option maxRecDepth 100000
set_option maxHeartbeats 0
section
/-! Pd, part A: data, the store, what stands for data in the heap. -/
namespace Pd
open PySem PySem.Spec PyProof.Rows L2

/-- data: what a value is, whatever addresses it has; ref n: the n-th cell of the store (a thing that is still changed) -/
inductive D where
  | non | bl (b : Bool) | int (i : Int) | str (s : Str)
  | tup (xs : List D) | lst (xs : List D) | scr (xs : List D) | ins (c : Nat) (fs : List (Nat × D)) | ref (n : Nat)
  | dct (ks : List (Key × D)) | ext (k : Nat) (xs : List D) | cl (c : Nat) | exn (c : Nat) (fs : List (Nat × D))
  deriving Inhabited

inductive Cell where
  | dead | lst (xs : List D) | ins (c : Nat) (fs : List (Nat × D)) | dct (ks : List (Key × D)) | tbl (i : Nat)
abbrev Store := List Cell
def Cell.live : Cell → Bool
  | .dead => false
  | _ => true

/-- what the top has made: the written part, the classes, the classes of errors, the names of attributes (xn: those of errors alone), other kinds of things, the tables of code objects, the error that is being handled: its address, its class, its dict -/
structure Ga where
  K : PySem.W.Frag
  cls : List Addr
  xc : List Addr
  nm : List Str
  ho : List (Addr → List V → HO)
  tab : List (Addr × Str)
  xn : List Str
  xa : Option (Addr × Nat × Option Addr)

def lv (m : List Addr) (S : Store) : List Addr := ((m.zip S).filter fun p => p.2.live).map (·.1)

/-- what stays out of sight of data: F (a comprehension's list that grows), the cells that live -/
def lw (F m : List Addr) (S : Store) : List Addr := F ++ lv m S

theorem mem_lv : ∀ {m : List Addr} {S : Store} {b : Addr}, b ∈ lv m S ↔ ∃ (n : Nat) (c : Cell), m[n]? = some b ∧ S[n]? = some c ∧ c.live = true
  | [], S, b => by
    constructor
    · intro h; exact absurd h (by simp [lv])
    · rintro ⟨n, c, h, _⟩; simp at h
  | a :: m, [], b => by
    constructor
    · intro h; exact absurd h (by simp [lv])
    · rintro ⟨n, c, _, h, _⟩; simp at h
  | a :: m, c :: S, b => by
    have ih := mem_lv (m := m) (S := S) (b := b)
    constructor
    · intro h
      by_cases hc : c.live = true
      · have h' : b ∈ a :: lv m S := by simpa [lv, List.filter_cons, hc] using h
        rcases List.mem_cons.mp h' with e | h'
        · exact ⟨0, c, by simp [e], by simp, hc⟩
        · obtain ⟨n, d, h1, h2, h3⟩ := ih.mp h'
          exact ⟨n + 1, d, by simpa using h1, by simpa using h2, h3⟩
      · have h' : b ∈ lv m S := by simpa [lv, List.filter_cons, hc] using h
        obtain ⟨n, d, h1, h2, h3⟩ := ih.mp h'
        exact ⟨n + 1, d, by simpa using h1, by simpa using h2, h3⟩
    · rintro ⟨n, d, h1, h2, h3⟩
      have key : b ∈ lv m S → b ∈ lv (a :: m) (c :: S) := fun h => by
        by_cases hc : c.live = true
        · have : b ∈ a :: lv m S := List.mem_cons_of_mem _ h
          simpa [lv, List.filter_cons, hc] using this
        · simpa [lv, List.filter_cons, hc] using h
      cases n with
      | zero =>
        simp at h1 h2
        subst h1; subst h2
        simp [lv, List.filter_cons, h3]
      | succ n => exact key (ih.mpr ⟨n, d, by simpa using h1, by simpa using h2, h3⟩)

/-- a list, a tuple that nobody changes any more -/
def ImmL (K : PySem.W.Frag) (H : Hp) (L : List Addr) (a : Addr) (ys : List V) : Prop := (Rd H a (.lst ys) ∧ a ∉ L) ∨ SqL K (fun _ => none) a ys
/-- a tuple that has nothing but its items -/
def PlT (H : Hp) (a : Addr) (ys : List V) : Prop := ∃ o : Obj, H a = some (.frz o (.tup ys)) ∧ o.dict = none
theorem PlT.rd {H : Hp} {a : Addr} {ys : List V} (h : PlT H a ys) : Rd H a (.tup ys) := let ⟨o, e, _⟩ := h; .inr ⟨o, e⟩
def PlK (K : PySem.W.Frag) (a : Addr) : Prop := ∃ o : Obj, K.lookup a = some o ∧ o.dict = none
def ImmT (K : PySem.W.Frag) (H : Hp) (L : List Addr) (a : Addr) (ys : List V) : Prop := (PlT H a ys ∧ a ∉ L) ∨ (SqT K (fun _ => none) a ys ∧ PlK K a)

theorem SqL.free_any {K : PySem.W.Frag} {H : Hp} {a : Addr} {ys : List V} (h : SqL K (fun _ => none) a ys) : SqL K H a ys := by
  rcases h with (h | ⟨_, h⟩) | h
  · cases h
  · cases h
  · exact .inr h
theorem SqT.free_any {K : PySem.W.Frag} {H : Hp} {a : Addr} {ys : List V} (h : SqT K (fun _ => none) a ys) : SqT K H a ys := by
  rcases h with (h | ⟨_, h⟩) | h
  · cases h
  · cases h
  · exact .inr h
theorem ImmL.sq {K : PySem.W.Frag} {H : Hp} {L : List Addr} {a : Addr} {ys : List V} (h : ImmL K H L a ys) : SqL K H a ys := h.elim (fun h => .inl h.1) SqL.free_any
theorem ImmT.sq {K : PySem.W.Frag} {H : Hp} {L : List Addr} {a : Addr} {ys : List V} (h : ImmT K H L a ys) : SqT K H a ys := h.elim (fun h => .inl h.1.rd) fun h => SqT.free_any h.1

/-- what an error's dict holds -/
def XDict (H : Hp) (L : List Addr) (dd : Option Addr) (gs : List (Str × V)) : Prop := (dd = none ∧ gs = []) ∨ ∃ dx, dd = some dx ∧ H dx = some (.xd gs) ∧ dx ∉ L
mutual
/-- the value v stands for the data d; m: where the cells are; L: those that may still be changed -/
inductive VD (G : Ga) (H : Hp) (m L : List Addr) : D → V → Prop where
  | non : VD G H m L .non .non
  | bl (b : Bool) : VD G H m L (.bl b) (.bl b)
  | int (i : Int) : VD G H m L (.int i) (.int i)
  | str (s : Str) : VD G H m L (.str s) (.str s)
  | tup {xs : List D} {ys : List V} {a : Addr} : ImmT G.K H L a ys → VDs G H m L xs ys → VD G H m L (.tup xs) (.ref a)
  | lst {xs : List D} {ys : List V} {a : Addr} : H a = some (.lst ys) → a ∉ L → VDs G H m L xs ys → VD G H m L (.lst xs) (.ref a)
  | scr {xs : List D} {ys : List V} {a : Addr} : ImmL G.K H L a ys → VDs G H m L xs ys → VD G H m L (.scr xs) (.ref a)
  | ins {c : Nat} {fs : List (Nat × D)} {a C dx : Addr} {gs : List (Str × V)} : G.cls[c]? = some C → H a = some (.ins C dx gs) → a ∉ L → FDs G H m L fs gs → VD G H m L (.ins c fs) (.ref a)
  | ref {n : Nat} {a : Addr} : m[n]? = some a → VD G H m L (.ref n) (.ref a)
  | dct {ks : List (Key × D)} {gs : List (Key × V)} {a : Addr} : H a = some (.dK gs) → a ∉ L → KDs G H m L ks gs → VD G H m L (.dct ks) (.ref a)
  | ext {k : Nat} {xs : List D} {ys : List V} {a : Addr} {ho : Addr → List V → HO} : G.ho[k]? = some ho → H a = some (ho a ys) → a ∉ L → VDs G H m L xs ys → VD G H m L (.ext k xs) (.ref a)
  | cl {c : Nat} {C : Addr} : G.cls[c]? = some C → VD G H m L (.cl c) (.ref C)
  | exn {c : Nat} {fs : List (Nat × D)} {a : Addr} {dd : Option Addr} {gs : List (Str × V)} : G.xa = some (a, c, dd) → XDict H L dd gs → FDs G H m L fs gs → VD G H m L (.exn c fs) (.ref a)
inductive VDs (G : Ga) (H : Hp) (m L : List Addr) : List D → List V → Prop where
  | nil : VDs G H m L [] []
  | cons {d : D} {v : V} {ds : List D} {vs : List V} : VD G H m L d v → VDs G H m L ds vs → VDs G H m L (d :: ds) (v :: vs)
inductive FDs (G : Ga) (H : Hp) (m L : List Addr) : List (Nat × D) → List (Str × V) → Prop where
  | nil : FDs G H m L [] []
  | cons {i : Nat} {x : Str} {d : D} {v : V} {ds : List (Nat × D)} {vs : List (Str × V)} : G.nm[i]? = some x → VD G H m L d v → FDs G H m L ds vs → FDs G H m L ((i, d) :: ds) ((x, v) :: vs)
inductive KDs (G : Ga) (H : Hp) (m L : List Addr) : List (Key × D) → List (Key × V) → Prop where
  | nil : KDs G H m L [] []
  | cons {x : Key} {d : D} {v : V} {ds : List (Key × D)} {vs : List (Key × V)} : VD G H m L d v → KDs G H m L ds vs → KDs G H m L ((x, d) :: ds) ((x, v) :: vs)
end

/-- what may have become of the heap: all that was tracked and is no cell stands as it was -/
structure Kp (H : Hp) (m L : List Addr) (H' : Hp) (m' L' : List Addr) : Prop where
  same : ∀ b o, H b = some o → b ∉ L → H' b = some o
  news : ∀ b, b ∈ L' → b ∈ L ∨ H b = none
  ext : ∀ (n : Nat) (a : Addr), m[n]? = some a → m'[n]? = some a
theorem Kp.refl {H : Hp} {m L : List Addr} : Kp H m L H m L := ⟨fun _ _ h _ => h, fun _ h => .inl h, fun _ _ h => h⟩
theorem Kp.trans {H H1 H2 : Hp} {m m1 m2 L L1 L2 : List Addr} (a : Kp H m L H1 m1 L1) (b : Kp H1 m1 L1 H2 m2 L2) : Kp H m L H2 m2 L2 where
  same := fun c o h n => b.same c o (a.same c o h n) fun z => by
    rcases a.news c z with z | z
    · exact n z
    · rw [h] at z; cases z
  news := fun c h => by
    rcases b.news c h with z | z
    · exact a.news c z
    · cases q : H c with
      | none => exact .inr rfl
      | some o =>
        by_cases n : c ∈ L
        · exact .inl n
        · rw [a.same c o q n] at z; cases z
  ext := fun n c h => b.ext n c (a.ext n c h)

section
variable {G : Ga} {H H' : Hp} {m m' L L' : List Addr}
theorem ImmL.mono0 {K : PySem.W.Frag} {a : Addr} {ys : List V} (k : Kp H m L H' m' L') (h : ImmL K H L a ys) : ImmL K H' L' a ys := by
  rcases h with ⟨h, n⟩ | h
  · have nn : a ∉ L' := fun z => by
      rcases k.news a z with z | z
      · exact n z
      · rcases h with h | ⟨_, h⟩
        · rw [h] at z; cases z
        · rw [h] at z; cases z
    rcases h with h | ⟨o, h⟩
    · exact .inl ⟨.inl (k.same _ _ h n), nn⟩
    · exact .inl ⟨.inr ⟨o, k.same _ _ h n⟩, nn⟩
  · exact .inr h
theorem ImmT.mono0 {K : PySem.W.Frag} {a : Addr} {ys : List V} (k : Kp H m L H' m' L') (h : ImmT K H L a ys) : ImmT K H' L' a ys := by
  rcases h with ⟨⟨o, h, hd⟩, n⟩ | h
  · refine .inl ⟨⟨o, k.same _ _ h n, hd⟩, fun z => ?_⟩
    rcases k.news a z with z | z
    · exact n z
    · rw [h] at z; cases z
  · exact .inr h
theorem XDict.mono0 {dd : Option Addr} {gs : List (Str × V)} (k : Kp H m L H' m' L') (h : XDict H L dd gs) : XDict H' L' dd gs := by
  rcases h with h | ⟨dx, e, h1, h2⟩
  · exact .inl h
  · refine .inr ⟨dx, e, k.same _ _ h1 h2, fun z => ?_⟩
    rcases k.news _ z with z | z
    · exact h2 z
    · rw [h1] at z; cases z
theorem XDict.less {dd : Option Addr} {gs : List (Str × V)} (hL : ∀ b, b ∈ L' → b ∈ L) (h : XDict H L dd gs) : XDict H L' dd gs := h.elim .inl fun ⟨dx, e, h1, h2⟩ => .inr ⟨dx, e, h1, fun z => h2 (hL _ z)⟩
mutual
theorem VD.mono0 (k : Kp H m L H' m' L') : ∀ {d : D} {v : V}, VD G H m L d v → VD G H' m' L' d v
  | _, _, .non => .non
  | _, _, .bl b => .bl b
  | _, _, .int i => .int i
  | _, _, .str s => .str s
  | _, _, .tup h r => .tup (h.mono0 k) (VDs.mono0 k r)
  | _, _, .lst h n r => .lst (k.same _ _ h n) (fun z => by
      rcases k.news _ z with z | z
      · exact n z
      · rw [h] at z; cases z) (VDs.mono0 k r)
  | _, _, .scr h r => .scr (h.mono0 k) (VDs.mono0 k r)
  | _, _, .ins hc h n r => .ins hc (k.same _ _ h n) (fun z => by
      rcases k.news _ z with z | z
      · exact n z
      · rw [h] at z; cases z) (FDs.mono0 k r)
  | _, _, .ref h => .ref (k.ext _ _ h)
  | _, _, .dct h n r => .dct (k.same _ _ h n) (fun z => by
      rcases k.news _ z with z | z
      · exact n z
      · rw [h] at z; cases z) (KDs.mono0 k r)
  | _, _, .ext hc h n r => .ext hc (k.same _ _ h n) (fun z => by
      rcases k.news _ z with z | z
      · exact n z
      · rw [h] at z; cases z) (VDs.mono0 k r)
  | _, _, .cl h => .cl h
  | _, _, .exn h q r => .exn h (q.mono0 k) (FDs.mono0 k r)
theorem VDs.mono0 (k : Kp H m L H' m' L') : ∀ {d : List D} {v : List V}, VDs G H m L d v → VDs G H' m' L' d v
  | _, _, .nil => .nil
  | _, _, .cons h r => .cons (VD.mono0 k h) (VDs.mono0 k r)
theorem FDs.mono0 (k : Kp H m L H' m' L') : ∀ {d : List (Nat × D)} {v : List (Str × V)}, FDs G H m L d v → FDs G H' m' L' d v
  | _, _, .nil => .nil
  | _, _, .cons hn h r => .cons hn (VD.mono0 k h) (FDs.mono0 k r)
theorem KDs.mono0 (k : Kp H m L H' m' L') : ∀ {d : List (Key × D)} {v : List (Key × V)}, KDs G H m L d v → KDs G H' m' L' d v
  | _, _, .nil => .nil
  | _, _, .cons h r => .cons (VD.mono0 k h) (KDs.mono0 k r)
end
theorem Kp.w {F : List Addr} (k : Kp H m L H' m' L') : Kp H m (F ++ L) H' m' (F ++ L') :=
  ⟨fun b o h n => k.same b o h fun z => n (List.mem_append_right _ z), fun b h => (List.mem_append.mp h).elim (fun z => .inl (List.mem_append_left _ z)) fun z => (k.news b z).elim (fun z => .inl (List.mem_append_right _ z)) .inr, k.ext⟩
theorem VD.mono {F : List Addr} {S S' : Store} {d : D} {v : V} (k : Kp H m (lv m S) H' m' (lv m' S')) (h : VD G H m (lw F m S) d v) : VD G H' m' (lw F m' S') d v := VD.mono0 k.w h
theorem VDs.mono {F : List Addr} {S S' : Store} {d : List D} {v : List V} (k : Kp H m (lv m S) H' m' (lv m' S')) (h : VDs G H m (lw F m S) d v) : VDs G H' m' (lw F m' S') d v := VDs.mono0 k.w h
theorem FDs.mono {F : List Addr} {S S' : Store} {d : List (Nat × D)} {v : List (Str × V)} (k : Kp H m (lv m S) H' m' (lv m' S')) (h : FDs G H m (lw F m S) d v) : FDs G H' m' (lw F m' S') d v := FDs.mono0 k.w h
theorem KDs.mono {F : List Addr} {S S' : Store} {d : List (Key × D)} {v : List (Key × V)} (k : Kp H m (lv m S) H' m' (lv m' S')) (h : KDs G H m (lw F m S) d v) : KDs G H' m' (lw F m' S') d v := KDs.mono0 k.w h
theorem VDs.length : ∀ {d : List D} {v : List V}, VDs G H m L d v → d.length = v.length
  | _, _, .nil => rfl
  | _, _, .cons _ r => by rw [List.length_cons, List.length_cons, VDs.length r]
theorem VDs.get : ∀ {ds : List D} {vs : List V} {i : Nat} {d : D}, VDs G H m L ds vs → ds[i]? = some d → ∃ v, vs[i]? = some v ∧ VD G H m L d v
  | _, _, _, _, .nil, e => by simp at e
  | _, _, 0, _, .cons r _, e => by simp at e; subst e; exact ⟨_, rfl, r⟩
  | _, _, i + 1, d, .cons _ t, e => by
    obtain ⟨u, h1, h2⟩ := VDs.get (i := i) (d := d) t (by simpa using e)
    exact ⟨u, by simpa using h1, h2⟩
theorem VDs.getV : ∀ {ds : List D} {vs : List V} {i : Nat} {v : V}, VDs G H m L ds vs → vs[i]? = some v → ∃ d, ds[i]? = some d ∧ VD G H m L d v
  | _, _, _, _, .nil, e => by simp at e
  | _, _, 0, _, .cons r _, e => by simp at e; subst e; exact ⟨_, rfl, r⟩
  | _, _, i + 1, v, .cons _ t, e => by
    obtain ⟨u, h1, h2⟩ := VDs.getV (i := i) (v := v) t (by simpa using e)
    exact ⟨u, by simpa using h1, h2⟩
theorem VDs.append : ∀ {ds es : List D} {vs ws : List V}, VDs G H m L ds vs → VDs G H m L es ws → VDs G H m L (ds ++ es) (vs ++ ws)
  | _, _, _, _, .nil, s => s
  | _, _, _, _, .cons r t, s => .cons r (VDs.append t s)
theorem VDs.set {d : D} {v : V} (r : VD G H m L d v) : ∀ {ds : List D} {vs : List V} (i : Nat), VDs G H m L ds vs → VDs G H m L (ds.set i d) (vs.set i v)
  | _, _, _, .nil => .nil
  | _, _, 0, .cons _ t => .cons r t
  | _, _, i + 1, .cons q t => .cons q (VDs.set r i t)
theorem VDs.take : ∀ {ds : List D} {vs : List V} (n : Nat), VDs G H m L ds vs → VDs G H m L (ds.take n) (vs.take n)
  | _, _, 0, _ => .nil
  | _, _, _ + 1, .nil => .nil
  | _, _, n + 1, .cons r t => .cons r (VDs.take n t)
theorem VDs.drop : ∀ {ds : List D} {vs : List V} (n : Nat), VDs G H m L ds vs → VDs G H m L (ds.drop n) (vs.drop n)
  | _, _, 0, r => r
  | _, _, _ + 1, .nil => .nil
  | _, _, n + 1, .cons _ t => VDs.drop n t
theorem VDs.revAux : ∀ {ds es : List D} {vs ws : List V}, VDs G H m L ds vs → VDs G H m L es ws → VDs G H m L (ds.reverseAux es) (vs.reverseAux ws)
  | _, _, _, _, .nil, s => s
  | _, _, _, _, .cons r t, s => (VDs.revAux t (.cons r s) :)
theorem VDs.reverse {ds : List D} {vs : List V} (h : VDs G H m L ds vs) : VDs G H m L ds.reverse vs.reverse := VDs.revAux h .nil
theorem VDs.eraseIdx : ∀ {ds : List D} {vs : List V} (n : Nat), VDs G H m L ds vs → VDs G H m L (ds.eraseIdx n) (vs.eraseIdx n)
  | _, _, _, .nil => .nil
  | _, _, 0, .cons r t => t
  | _, _, n + 1, .cons r t => .cons r (VDs.eraseIdx n t)
theorem FDs.lookup (nd : G.nm.Nodup) {i : Nat} {x : Str} (hx : G.nm[i]? = some x) : ∀ {ds : List (Nat × D)} {vs : List (Str × V)} {d : D}, FDs G H m L ds vs → ds.lookup i = some d → ∃ v, vs.lookup x = some v ∧ VD G H m L d v
  | _, _, _, .nil, e => by simp at e
  | _, _, d, .cons (i := j) (x := y) hy h r, e => by
    by_cases q : i = j
    · subst q
      rw [hx] at hy; cases hy
      simp [List.lookup] at e ⊢
      subst e; exact h
    · have ne : x ≠ y := fun z => q (by
        subst z
        obtain ⟨h1, e1⟩ := List.getElem?_eq_some_iff.mp hx
        obtain ⟨h2, e2⟩ := List.getElem?_eq_some_iff.mp hy
        exact (List.getElem_inj nd).mp (e1.trans e2.symm))
      have b1 : (i == j) = false := by simpa using q
      have b2 : (x == y) = false := by simpa using ne
      simp only [List.lookup, b1] at e
      obtain ⟨v, hv, r'⟩ := FDs.lookup nd hx r e
      exact ⟨v, by simp only [List.lookup, b2]; exact hv, r'⟩
end

/-- a cell stands at a -/
def CellOk (G : Ga) (H : Hp) (m L : List Addr) : Cell → Addr → Prop
  | .dead, _ => True
  | .lst xs, a => ∃ ys, H a = some (.lst ys) ∧ VDs G H m L xs ys
  | .ins c fs, a => ∃ C dx gs, G.cls[c]? = some C ∧ H a = some (.ins C dx gs) ∧ FDs G H m L fs gs
  | .dct ks, a => ∃ gs, H a = some (.dK gs) ∧ KDs G H m L ks gs
  | .tbl i, a => ∃ (q : Str) (ps : Array Value), G.tab[i]? = some (a, q) ∧ H a = some (.tbl ps) ∧ PySem.TriplesOk ps.toList ∧ ∀ (pos : Pos) (cv : Value), PySem.codeAmong pos ps.toList = some cv → ∃ c, cv = .ref c ∧ H c = some (LamX.CodeO c q) ∧ c ∉ L
structure SR (G : Ga) (F : List Addr) (H : Hp) (m : List Addr) (S : Store) : Prop where
  len : S.length = m.length
  nd : m.Nodup
  trk : ∀ a ∈ m, ∃ o, H a = some o
  ftr : ∀ a ∈ F, (∃ o, H a = some o) ∧ a ∉ m
  cell : ∀ (n : Nat) c a, S[n]? = some c → m[n]? = some a → CellOk G H m (lw F m S) c a
/-- the slots -/
def EnvR (G : Ga) (H : Hp) (m L : List Addr) (ρ : List (Option D)) (σ : L2.St) : Prop := ρ.length = σ.length ∧ ∀ (i : Nat) (d : D), ρ[i]? = some (some d) → ∃ v, σ[i]? = some (some v) ∧ VD G H m L d v

section
variable {G : Ga} {F : List Addr} {H H' : Hp} {m m' L L' : List Addr} {S S' : Store} {ρ : List (Option D)} {σ : L2.St}
theorem EnvR.mono (k : Kp H m (lv m S) H' m' (lv m' S')) (h : EnvR G H m (lw F m S) ρ σ) : EnvR G H' m' (lw F m' S') ρ σ := ⟨h.1, fun i d e => let ⟨v, h1, h2⟩ := h.2 i d e; ⟨v, h1, h2.mono k⟩⟩
theorem EnvR.set {i : Nat} {d : D} {v : V} (h : EnvR G H m L ρ σ) (r : VD G H m L d v) : EnvR G H m L (ρ.set i (some d)) (σ.set i (some v)) := by
  refine ⟨by simp [h.1], fun j e hj => ?_⟩
  by_cases q : i = j
  · subst q
    have hlt : i < ρ.length := by
      rcases Nat.lt_or_ge i ρ.length with z | z
      · exact z
      · rw [List.getElem?_eq_none (by simpa using z)] at hj; cases hj
    rw [List.getElem?_set_self hlt] at hj
    cases hj
    exact ⟨v, List.getElem?_set_self (by rw [← h.1]; exact hlt), r⟩
  · rw [List.getElem?_set_ne q] at hj
    obtain ⟨w, h1, h2⟩ := h.2 j e hj
    exact ⟨w, by rw [List.getElem?_set_ne q]; exact h1, h2⟩
theorem lv_sub {b : Addr} (h : b ∈ lv m S) : b ∈ m := by
  obtain ⟨n, c, h1, _, _⟩ := mem_lv.mp h
  exact List.mem_of_getElem? h1
theorem CellOk.mono {c : Cell} {a : Addr} (k : Kp H m (lv m S) H' m' (lv m' S')) (ha : c.live = true → H' a = H a) (h : CellOk G H m (lw F m S) c a) : CellOk G H' m' (lw F m' S') c a := by
  cases c with
  | dead => trivial
  | lst xs =>
    obtain ⟨ys, h1, h2⟩ := h
    exact ⟨ys, (ha rfl).trans h1, h2.mono k⟩
  | ins c fs =>
    obtain ⟨C, dx, gs, hc, h1, h2⟩ := h
    exact ⟨C, dx, gs, hc, (ha rfl).trans h1, h2.mono k⟩
  | dct ks =>
    obtain ⟨gs, h1, h2⟩ := h
    exact ⟨gs, (ha rfl).trans h1, h2.mono k⟩
  | tbl i =>
    obtain ⟨q, ps, h0, h1, h2, h3⟩ := h
    refine ⟨q, ps, h0, (ha rfl).trans h1, h2, fun pos cv e => ?_⟩
    obtain ⟨c, e1, e2, n⟩ := h3 pos cv e
    refine ⟨c, e1, k.same _ _ e2 fun z => n (List.mem_append_right _ z), fun z => ?_⟩
    rcases List.mem_append.mp z with z | z
    · exact n (List.mem_append_left _ z)
    · rcases k.news _ z with z | z
      · exact n (List.mem_append_right _ z)
      · rw [e2] at z; cases z
/-- a new object that is no cell -/
theorem Kp.new {p : Addr} {o : HO} (s : SR G F H m S) (hp : H p = none) : Kp H m (lv m S) (upd H p o) m (lv m S) :=
  ⟨fun b u h _ => by rw [upd_ne (ne_of_none h hp)]; exact h, fun b h => .inl h, fun _ _ h => h⟩
theorem SR.new {p : Addr} {o : HO} (s : SR G F H m S) (hp : H p = none) : SR G F (upd H p o) m S where
  len := s.len
  nd := s.nd
  trk := fun a h => by
    obtain ⟨u, e⟩ := s.trk a h
    exact ⟨u, by rw [upd_ne (ne_of_none e hp)]; exact e⟩
  ftr := fun a h => let ⟨⟨u, e⟩, n⟩ := s.ftr a h; ⟨⟨u, by rw [upd_ne (ne_of_none e hp)]; exact e⟩, n⟩
  cell := fun n c a h1 h2 => (s.cell n c a h1 h2).mono (Kp.new s hp) fun _ => by
    obtain ⟨u, e⟩ := s.trk a (List.mem_of_getElem? h2)
    exact upd_ne (ne_of_none e hp)
theorem SR.fresh {p : Addr} (s : SR G F H m S) (hp : H p = none) : p ∉ m := fun h => by
  obtain ⟨u, e⟩ := s.trk p h
  rw [hp] at e; cases e
theorem SR.freshF {p : Addr} (s : SR G F H m S) (hp : H p = none) : p ∉ lw F m S := fun h => by
  rcases List.mem_append.mp h with h | h
  · obtain ⟨⟨u, e⟩, _⟩ := s.ftr p h
    rw [hp] at e; cases e
  · exact s.fresh hp (lv_sub h)
/-- a new cell -/
theorem lv_push {p : Addr} {c : Cell} (hl : S.length = m.length) : ∀ b, b ∈ lv (m ++ [p]) (S ++ [c]) → b ∈ lv m S ∨ b = p := fun b h => by
  obtain ⟨n, d, h1, h2, h3⟩ := mem_lv.mp h
  by_cases q : n < m.length
  · rw [List.getElem?_append_left q] at h1
    rw [List.getElem?_append_left (by omega)] at h2
    exact .inl (mem_lv.mpr ⟨n, d, h1, h2, h3⟩)
  · have e : n = m.length := by
      have : n < (m ++ [p]).length := (List.getElem?_eq_some_iff.mp h1).1
      simp at this
      omega
    subst e
    simp at h1
    exact .inr h1.symm
theorem Kp.push {p : Addr} {o : HO} {c : Cell} (s : SR G F H m S) (hp : H p = none) : Kp H m (lv m S) (upd H p o) (m ++ [p]) (lv (m ++ [p]) (S ++ [c])) where
  same := fun b u h _ => by rw [upd_ne (ne_of_none h hp)]; exact h
  news := fun b h => (lv_push s.len b h).elim .inl fun e => .inr (by rw [e]; exact hp)
  ext := fun n a h => by rw [List.getElem?_append_left (List.getElem?_eq_some_iff.mp h).1]; exact h
theorem SR.push {p : Addr} {o : HO} {c : Cell} (s : SR G F H m S) (hp : H p = none) (hc : CellOk G (upd H p o) (m ++ [p]) (lw F (m ++ [p]) (S ++ [c])) c p) : SR G F (upd H p o) (m ++ [p]) (S ++ [c]) where
  len := by simp [s.len]
  nd := by
    rw [List.nodup_append]
    refine ⟨s.nd, by simp, fun a ha b hb => ?_⟩
    have e : b = p := by simpa using hb
    subst e
    exact fun z => s.fresh hp (z ▸ ha)
  trk := fun a h => by
    rcases List.mem_append.mp h with h | h
    · obtain ⟨u, e⟩ := s.trk a h
      exact ⟨u, by rw [upd_ne (ne_of_none e hp)]; exact e⟩
    · have e : a = p := by simpa using h
      subst e
      exact ⟨o, upd_same⟩
  ftr := fun a h => by
    obtain ⟨⟨u, e⟩, n⟩ := s.ftr a h
    have ne := ne_of_none e hp
    refine ⟨⟨u, by rw [upd_ne ne]; exact e⟩, fun z => ?_⟩
    rcases List.mem_append.mp z with z | z
    · exact n z
    · exact ne (by simpa using z)
  cell := fun n d a h1 h2 => by
    by_cases q : n < m.length
    · rw [List.getElem?_append_left q] at h2
      rw [List.getElem?_append_left (by rw [s.len]; exact q)] at h1
      refine (s.cell n d a h1 h2).mono (Kp.push s hp) fun _ => ?_
      obtain ⟨u, e⟩ := s.trk a (List.mem_of_getElem? h2)
      exact upd_ne (ne_of_none e hp)
    · have e : n = m.length := by
        have : n < (m ++ [p]).length := (List.getElem?_eq_some_iff.mp h2).1
        simp at this
        omega
      subst e
      have e1 : (S ++ [c])[m.length]? = some c := by rw [← s.len]; simp
      rw [e1] at h1
      have e2 : (m ++ [p])[m.length]? = some p := by simp
      rw [e2] at h2
      cases h1; cases h2
      exact hc
/-- a cell changes -/
theorem lv_set {n : Nat} {c d : Cell} (hc : S[n]? = some c) (h1 : c.live = true) (h2 : d.live = true) : ∀ b, b ∈ lv m (S.set n d) ↔ b ∈ lv m S := fun b => by
  constructor
  · intro h
    obtain ⟨k, e, k1, k2, k3⟩ := mem_lv.mp h
    by_cases q : n = k
    · subst q
      exact mem_lv.mpr ⟨n, c, k1, hc, h1⟩
    · rw [List.getElem?_set_ne q] at k2
      exact mem_lv.mpr ⟨k, e, k1, k2, k3⟩
  · intro h
    obtain ⟨k, e, k1, k2, k3⟩ := mem_lv.mp h
    by_cases q : n = k
    · subst q
      exact mem_lv.mpr ⟨n, d, k1, List.getElem?_set_self (List.getElem?_eq_some_iff.mp hc).1, h2⟩
    · exact mem_lv.mpr ⟨k, e, k1, by rw [List.getElem?_set_ne q]; exact k2, k3⟩
theorem Kp.store {n : Nat} {a : Addr} {o : HO} {c d : Cell} (s : SR G F H m S) (hc : S[n]? = some c) (ha : m[n]? = some a) (h1 : c.live = true) (h2 : d.live = true) : Kp H m (lv m S) (upd H a o) m (lv m (S.set n d)) where
  same := fun b u h nb => by
    have ne : b ≠ a := fun z => nb (z ▸ mem_lv.mpr ⟨n, c, ha, hc, h1⟩)
    rw [upd_ne ne]; exact h
  news := fun b h => .inl ((lv_set hc h1 h2 b).mp h)
  ext := fun _ _ h => h
theorem SR.store {n : Nat} {a : Addr} {o : HO} {c d : Cell} (s : SR G F H m S) (hc : S[n]? = some c) (ha : m[n]? = some a) (h1 : c.live = true) (h2 : d.live = true)
    (hd : CellOk G (upd H a o) m (lw F m (S.set n d)) d a) : SR G F (upd H a o) m (S.set n d) where
  len := by simp [s.len]
  nd := s.nd
  trk := fun b h => by
    by_cases q : b = a
    · subst q; exact ⟨o, upd_same⟩
    · obtain ⟨u, e⟩ := s.trk b h
      exact ⟨u, by rw [upd_ne q]; exact e⟩
  ftr := fun b h => by
    obtain ⟨⟨u, e⟩, n⟩ := s.ftr b h
    have ne : b ≠ a := fun z => n (z ▸ List.mem_of_getElem? ha)
    exact ⟨⟨u, by rw [upd_ne ne]; exact e⟩, n⟩
  cell := fun k e b k1 k2 => by
    by_cases q : n = k
    · subst q
      rw [List.getElem?_set_self (List.getElem?_eq_some_iff.mp hc).1] at k1
      rw [ha] at k2
      cases k1; cases k2
      exact hd
    · rw [List.getElem?_set_ne q] at k1
      refine (s.cell k e b k1 k2).mono (Kp.store s hc ha h1 h2) fun _ => upd_ne fun z => q ?_
      subst z
      obtain ⟨l1, e1⟩ := List.getElem?_eq_some_iff.mp ha
      obtain ⟨l2, e2⟩ := List.getElem?_eq_some_iff.mp k2
      exact (List.getElem_inj s.nd).mp (e1.trans e2.symm)
theorem SR.list {n : Nat} {xs : List D} {a : Addr} (s : SR G F H m S) (hc : S[n]? = some (.lst xs)) (ha : m[n]? = some a) : ∃ ys, H a = some (.lst ys) ∧ VDs G H m (lw F m S) xs ys := s.cell n _ a hc ha
end
end Pd
end
section
/-! Pd, part Tp: tuples that are made, with nothing but their items. -/
namespace Pd
open PySem PySem.Spec PyProof.Rows L2
abbrev tob (its : List Value) : Obj := { cls := .type "tuple", data := .seq its.toArray }
section
variable {X : Cx}
/-- the continuation at a new plain tuple -/
def NewT (ys : List V) (H : Hp) (Q : VK) : Prop := ∀ p o, H p = none → o.dict = none → Q (.ref p) (upd H p (.frz o (.tup ys)))
theorem laidT {pins : List (Addr × Obj)} {σ : L2.St} {H : Hp} {s : Shared} {tk : Nat} {ys : List V} {us : List Value} (I : Inv X pins σ H s) (r : Vals ys us) (z : ys.length ≤ sizeLine) :
    Inv X pins σ (upd H s.heap.objs.size (.frz (tob us) (.tup ys))) { s with heap := s.heap.push (tob us), toks := tk } :=
  I.laid (t' := tk) (fun b ob q => Heap.get?_push_of_some _ q) (Nat.le_refl _) ⟨Heap.get?_push_size _ rfl, z, us, r, ⟨_, Heap.get?_push_size _ rfl, rfl, _, rfl⟩⟩
theorem newT_at {pins : List (Addr × Obj)} {σ : L2.St} {H : Hp} {s : Shared} {tk : Nat} {ys : List V} {us : List Value} {Q : VK} (I : Inv X pins σ H s) (r : Vals ys us) (z : ys.length ≤ sizeLine) (q : NewT ys H Q) :
    EP X pins σ Q (.ref s.heap.objs.size) { s with heap := s.heap.push (tob us), toks := tk } :=
  ⟨.ref s.heap.objs.size, _, laidT I r z, rfl, q _ _ (I.hok.fresh (Nat.le_refl _)) rfl⟩
/-- a display -/
def tTupP (t : TA) : TE := fun σ H Q => t σ H fun xs H1 => xs.length ≤ sizeLine ∧ NewT xs H1 Q
theorem pe_tupP {es : List Expr} {t : TA} {pos : Pos} {x1} (h : PA X es t) : PE X (.Tuple es x1 pos) (tTupP t) := by
  constructor
  intro pins s σ H Q I hq
  exact wpAny_Tuple_spliced (thn (h.run _ pins s σ H _ I hq) fun us s1 ⟨xs, H1, I1, r, z, q⟩ => ⟨by rw [← r.length]; exact z, newT_at (tk := s1.toks) I1 r z q⟩)
/-- t + u -/
def rCatP (K : PySem.W.Frag) : R2 := fun x y H Q => ∃ a b xs ys, x = .ref a ∧ y = .ref b ∧ SqT K H a xs ∧ SqT K H b ys ∧ xs.length + ys.length ≤ sizeLine ∧ (xs = [] → Q (.ref b) H) ∧ (xs ≠ [] → ys = [] → Q (.ref a) H) ∧ (xs ≠ [] → ys ≠ [] → NewT (xs ++ ys) H Q)
theorem op_catP : OpR X (binaryOp .Add) (rCatP X.K) := by
  intro pins s σ H x y v u Q I rx ry ⟨a, b, xs, ys, ex, ey, ha, hb, hz, q0, q1, q2⟩
  subst ex ey
  by_cases hx : xs = []
  · exact op_catA pins s σ H _ _ v u Q I rx ry ⟨a, b, xs, ys, rfl, rfl, ha, hb, hz, q0, fun z => absurd hx z, fun z => absurd hx z⟩
  · cases rx; cases ry
    obtain ⟨is1, r1, p1, _⟩ := I.tuple ha
    obtain ⟨is2, r2, p2, _⟩ := I.tuple hb
    refine HT.cat_tup p1 p2 (fun z => hx (r1.nil_iff.mp z)) (fun z => ⟨.ref a, H, I, rfl, q1 hx (r2.nil_iff.mp z)⟩) (fun z => ?_) (by rw [← r1.length, ← r2.length]; exact hz)
    exact newT_at (tk := s.toks) I (r1.append r2) (by rw [List.length_append]; exact hz) (q2 hx fun w => z (r2.nil_iff.mpr w))
/-- t[lo:hi] -/
def rSlP (K : PySem.W.Frag) : V → Option Int → Option Int → Hp → VK → Prop := fun x lo hi H Q => ∃ a xs, x = .ref a ∧ SqT K H a xs ∧
  (HT.sIx xs.length 0 lo = 0 ∧ HT.sIx xs.length xs.length hi = xs.length → Q (.ref a) H) ∧ (¬ (HT.sIx xs.length 0 lo = 0 ∧ HT.sIx xs.length xs.length hi = xs.length) → NewT (cutV xs lo hi) H Q)
theorem sl_tupP : SlR X (rSlP X.K) := by
  intro pins s σ H x v vl vu lo hi sl Q I rx hs pl pu ⟨a, xs, ex, hx, q1, q2⟩
  subst ex
  by_cases hw : HT.sIx xs.length 0 lo = 0 ∧ HT.sIx xs.length xs.length hi = xs.length
  · exact sl_tupA pins s σ H _ v vl vu lo hi sl Q I rx hs pl pu ⟨a, xs, rfl, hx, q1, fun z => absurd hw z⟩
  · cases rx
    obtain ⟨its, r, ht, hz⟩ := I.tuple hx
    have hn : its.toArray.size = xs.length := by rw [List.size_toArray]; exact r.length.symm
    refine ⟨"tuple", _, PyProof.Rows.slot_tuple_getitem.lookup, ht.typeIs, HT.getItem_tuple_cut ht hs pl pu (by rw [hn]; exact hw) ?_ (by rw [hn]; exact hz)⟩
    rw [hn]
    exact newT_at (tk := s.toks) I ((r.drop (HT.sIx xs.length 0 lo)).take (HT.sIx xs.length xs.length hi - HT.sIx xs.length 0 lo)) (Nat.le_trans (cutV_length xs lo hi) hz) (q2 hw)
/-- divmod -/
theorem call_divmodP : CallR X (.builtin "divmod") (fun xs H Q => ∃ i j, xs = [.int i, .int j] ∧ CDiv i j ∧ NewT [.int (i / j), .int (i % j)] H Q) := by
  intro pins s σ H xs us Q I r ⟨i, j, ex, ⟨h1, h2⟩, q⟩
  subst ex
  obtain ⟨u, w', rfl, ⟨t, rfl⟩, ⟨t', rfl⟩⟩ := vals2 r
  refine divmod_int (by omega) ?_ (.inl (PyProof.noPylong_small (by omega)))
  rw [Int.fdiv_eq_ediv_of_nonneg i (by omega), Int.fmod_eq_emod_of_nonneg i (by omega)]
  exact newT_at (ys := [.int (i / j), .int (i % j)]) (us := [.int (i / j) s.toks, .int (i % j) (s.toks + 1)]) I (.cons ⟨_, rfl⟩ (.cons ⟨_, rfl⟩ .nil)) (by simp only [List.length_cons, List.length_nil]; rw [sizeLine_eq]; decide) q
/-- tuple(xs) -/
theorem call_tuple_ofP : CallR X (.type "tuple") (fun xs H Q => ∃ p ys, xs = [.ref p] ∧ ((SqL X.K H p ys ∧ NewT ys H Q) ∨ (SqT X.K H p ys ∧ Q (.ref p) H))) := by
  intro pins s σ H xs us Q I r ⟨p, ys, ex, h⟩
  subst ex
  rcases h with ⟨hq, q⟩ | h
  · obtain ⟨u, rfl, rx⟩ := vals1 r
    cases rx
    obtain ⟨its, r', pl, hz⟩ := I.list hq
    have hn := r'.length
    refine call_tuple_list pl.isList (fun h' kp => ?_) (by simp only [List.size_toArray]; omega)
    exact newT_at (s := { s with heap := h' }) (tk := s.toks) (I.kept (t' := s.toks) kp) r' hz q
  · exact call_tuple_of pins s σ H _ us Q I r ⟨p, ys, rfl, .inr h⟩
end
end Pd
end
section
/-! Pd, part B: what code does with data: readings by functions of data, the rules of expressions. -/
namespace Pd
open PySem PySem.Spec PyProof.Rows L2

structure Exc where
  c : Nat
  fs : List (Nat × D)
inductive Res (α : Type) where
  | ok (a : α) | exc (x : Exc) (S : Store) | bad
def Res.bind {α β : Type} (r : Res α) (f : α → Res β) : Res β := match r with
  | .ok a => f a
  | .exc x S => .exc x S
  | .bad => .bad
abbrev Slots := List (Option D)
abbrev EvE := Slots → Store → Res (D × Store)
abbrev EvT := Slots → Store → Res (Bool × Store)
abbrev EvA := Slots → Store → Res (List D × Store)

def XD (G : Ga) (H : Hp) (m L : List Addr) (x : Exc) (cls : Value) (dd : Option Addr) : Prop :=
  ∃ C gs, G.xc[x.c]? = some C ∧ cls = .ref C ∧ XDict H L dd gs ∧ FDs G H m L x.fs gs
theorem XD.mono0 {G : Ga} {H H' : Hp} {m m' L L' : List Addr} {x : Exc} {cls : Value} {dd : Option Addr} (k : Kp H m L H' m' L') (h : XD G H m L x cls dd) : XD G H' m' L' x cls dd :=
  let ⟨C, gs, h1, h2, h3, h4⟩ := h
  ⟨C, gs, h1, h2, h3.mono0 k, FDs.mono0 k h4⟩

/-- what is wanted behind a run that gives r, begun at H -/
def RunE (G : Ga) (E : XK) (F : List Addr) (r : Res (D × Store)) (H : Hp) (m L : List Addr) (Q : VK) : Prop := match r with
  | .ok (d, S') => ∀ v H' m', Kp H m L H' m' (lv m' S') → SR G F H' m' S' → VD G H' m' (lw F m' S') d v → Q v H'
  | .exc x S' => ∀ cls dd H' m', Kp H m L H' m' (lv m' S') → SR G F H' m' S' → XD G H' m' (lw F m' S') x cls dd → E cls dd H'
  | .bad => False
def RunT (G : Ga) (E : XK) (F : List Addr) (r : Res (Bool × Store)) (H : Hp) (m L : List Addr) (Q : Bool → Hp → Prop) : Prop := match r with
  | .ok (b, S') => ∀ H' m', Kp H m L H' m' (lv m' S') → SR G F H' m' S' → Q b H'
  | .exc x S' => ∀ cls dd H' m', Kp H m L H' m' (lv m' S') → SR G F H' m' S' → XD G H' m' (lw F m' S') x cls dd → E cls dd H'
  | .bad => False
def RunA (G : Ga) (E : XK) (F : List Addr) (r : Res (List D × Store)) (H : Hp) (m L : List Addr) (Q : List V → Hp → Prop) : Prop := match r with
  | .ok (d, S') => ∀ v H' m', Kp H m L H' m' (lv m' S') → SR G F H' m' S' → VDs G H' m' (lw F m' S') d v → Q v H'
  | .exc x S' => ∀ cls dd H' m', Kp H m L H' m' (lv m' S') → SR G F H' m' S' → XD G H' m' (lw F m' S') x cls dd → E cls dd H'
  | .bad => False
def tX (G : Ga) (E : XK) (f : EvE) : TE := fun σ H Q => ∃ F ρ m S, EnvR G H m (lw F m S) ρ σ ∧ SR G F H m S ∧ RunE G E F (f ρ S) H m (lv m S) Q
def tT (G : Ga) (E : XK) (f : EvT) : TT := fun σ H Q => ∃ F ρ m S, EnvR G H m (lw F m S) ρ σ ∧ SR G F H m S ∧ RunT G E F (f ρ S) H m (lv m S) Q
def tA (G : Ga) (E : XK) (f : EvA) : TA := fun σ H Q => ∃ F ρ m S, EnvR G H m (lw F m S) ρ σ ∧ SR G F H m S ∧ RunA G E F (f ρ S) H m (lv m S) Q

section
variable {G : Ga} {E : XK} {F : List Addr} {H H1 : Hp} {m m1 L L1 : List Addr} {Q : VK} {QT : Bool → Hp → Prop} {QA : List V → Hp → Prop}
theorem RunE.mono {r : Res (D × Store)} (k : Kp H m L H1 m1 L1) (h : RunE G E F r H m L Q) : RunE G E F r H1 m1 L1 Q := by
  cases r with
  | ok a => exact fun v H' m' k' s r => h v H' m' (k.trans k') s r
  | exc x S' => exact fun c d H' m' k' s r => h c d H' m' (k.trans k') s r
  | bad => exact h
theorem RunT.mono {r : Res (Bool × Store)} (k : Kp H m L H1 m1 L1) (h : RunT G E F r H m L QT) : RunT G E F r H1 m1 L1 QT := by
  cases r with
  | ok a => exact fun H' m' k' s => h H' m' (k.trans k') s
  | exc x S' => exact fun c d H' m' k' s r => h c d H' m' (k.trans k') s r
  | bad => exact h
theorem RunA.mono {r : Res (List D × Store)} (k : Kp H m L H1 m1 L1) (h : RunA G E F r H m L QA) : RunA G E F r H1 m1 L1 QA := by
  cases r with
  | ok a => exact fun v H' m' k' s r => h v H' m' (k.trans k') s r
  | exc x S' => exact fun c d H' m' k' s r => h c d H' m' (k.trans k') s r
  | bad => exact h

variable {ρ : Slots} {S : Store} {σ : L2.St}
/-- the next step of a run -/
theorem tX_bind {f : EvE} {g : D × Store → Res (D × Store)} {Q' : VK} (hE : EnvR G H m (lw F m S) ρ σ) (hS : SR G F H m S) (h : RunE G E F ((f ρ S).bind g) H m (lv m S) Q)
    (hQ : ∀ d S1 v H1 m1, f ρ S = .ok (d, S1) → Kp H m (lv m S) H1 m1 (lv m1 S1) → EnvR G H1 m1 (lw F m1 S1) ρ σ → SR G F H1 m1 S1 → VD G H1 m1 (lw F m1 S1) d v → RunE G E F (g (d, S1)) H1 m1 (lv m1 S1) Q → Q' v H1) : tX G E f σ H Q' := by
  refine ⟨F, ρ, m, S, hE, hS, ?_⟩
  cases q : f ρ S with
  | ok a =>
    obtain ⟨d, S1⟩ := a
    rw [q] at h
    exact fun v H1 m1 k s r => hQ d S1 v H1 m1 q k (hE.mono k) s r (RunE.mono k h)
  | exc x S' => rw [q] at h; exact h
  | bad => rw [q] at h; exact h
theorem tX_bindT {f : EvE} {g : D × Store → Res (Bool × Store)} {Q' : VK} (hE : EnvR G H m (lw F m S) ρ σ) (hS : SR G F H m S) (h : RunT G E F ((f ρ S).bind g) H m (lv m S) QT)
    (hQ : ∀ d S1 v H1 m1, f ρ S = .ok (d, S1) → Kp H m (lv m S) H1 m1 (lv m1 S1) → EnvR G H1 m1 (lw F m1 S1) ρ σ → SR G F H1 m1 S1 → VD G H1 m1 (lw F m1 S1) d v → RunT G E F (g (d, S1)) H1 m1 (lv m1 S1) QT → Q' v H1) : tX G E f σ H Q' := by
  refine ⟨F, ρ, m, S, hE, hS, ?_⟩
  cases q : f ρ S with
  | ok a =>
    obtain ⟨d, S1⟩ := a
    rw [q] at h
    exact fun v H1 m1 k s r => hQ d S1 v H1 m1 q k (hE.mono k) s r (RunT.mono k h)
  | exc x S' => rw [q] at h; exact h
  | bad => rw [q] at h; exact h
theorem tX_bindA {f : EvE} {g : D × Store → Res (List D × Store)} {Q' : VK} (hE : EnvR G H m (lw F m S) ρ σ) (hS : SR G F H m S) (h : RunA G E F ((f ρ S).bind g) H m (lv m S) QA)
    (hQ : ∀ d S1 v H1 m1, f ρ S = .ok (d, S1) → Kp H m (lv m S) H1 m1 (lv m1 S1) → EnvR G H1 m1 (lw F m1 S1) ρ σ → SR G F H1 m1 S1 → VD G H1 m1 (lw F m1 S1) d v → RunA G E F (g (d, S1)) H1 m1 (lv m1 S1) QA → Q' v H1) : tX G E f σ H Q' := by
  refine ⟨F, ρ, m, S, hE, hS, ?_⟩
  cases q : f ρ S with
  | ok a =>
    obtain ⟨d, S1⟩ := a
    rw [q] at h
    exact fun v H1 m1 k s r => hQ d S1 v H1 m1 q k (hE.mono k) s r (RunA.mono k h)
  | exc x S' => rw [q] at h; exact h
  | bad => rw [q] at h; exact h
theorem tA_bindA {f : EvA} {g : List D × Store → Res (List D × Store)} {Q' : List V → Hp → Prop} (hE : EnvR G H m (lw F m S) ρ σ) (hS : SR G F H m S) (h : RunA G E F ((f ρ S).bind g) H m (lv m S) QA)
    (hQ : ∀ d S1 v H1 m1, f ρ S = .ok (d, S1) → Kp H m (lv m S) H1 m1 (lv m1 S1) → EnvR G H1 m1 (lw F m1 S1) ρ σ → SR G F H1 m1 S1 → VDs G H1 m1 (lw F m1 S1) d v → RunA G E F (g (d, S1)) H1 m1 (lv m1 S1) QA → Q' v H1) : tA G E f σ H Q' := by
  refine ⟨F, ρ, m, S, hE, hS, ?_⟩
  cases q : f ρ S with
  | ok a =>
    obtain ⟨d, S1⟩ := a
    rw [q] at h
    exact fun v H1 m1 k s r => hQ d S1 v H1 m1 q k (hE.mono k) s r (RunA.mono k h)
  | exc x S' => rw [q] at h; exact h
  | bad => rw [q] at h; exact h
theorem tA_bind {f : EvA} {g : List D × Store → Res (D × Store)} {Q' : List V → Hp → Prop} (hE : EnvR G H m (lw F m S) ρ σ) (hS : SR G F H m S) (h : RunE G E F ((f ρ S).bind g) H m (lv m S) Q)
    (hQ : ∀ d S1 v H1 m1, f ρ S = .ok (d, S1) → Kp H m (lv m S) H1 m1 (lv m1 S1) → EnvR G H1 m1 (lw F m1 S1) ρ σ → SR G F H1 m1 S1 → VDs G H1 m1 (lw F m1 S1) d v → RunE G E F (g (d, S1)) H1 m1 (lv m1 S1) Q → Q' v H1) : tA G E f σ H Q' := by
  refine ⟨F, ρ, m, S, hE, hS, ?_⟩
  cases q : f ρ S with
  | ok a =>
    obtain ⟨d, S1⟩ := a
    rw [q] at h
    exact fun v H1 m1 k s r => hQ d S1 v H1 m1 q k (hE.mono k) s r (RunE.mono k h)
  | exc x S' => rw [q] at h; exact h
  | bad => rw [q] at h; exact h
theorem tT_bind {f : EvT} {g : Bool × Store → Res (D × Store)} {Q' : Bool → Hp → Prop} (hE : EnvR G H m (lw F m S) ρ σ) (hS : SR G F H m S) (h : RunE G E F ((f ρ S).bind g) H m (lv m S) Q)
    (hQ : ∀ b S1 H1 m1, f ρ S = .ok (b, S1) → Kp H m (lv m S) H1 m1 (lv m1 S1) → EnvR G H1 m1 (lw F m1 S1) ρ σ → SR G F H1 m1 S1 → RunE G E F (g (b, S1)) H1 m1 (lv m1 S1) Q → Q' b H1) : tT G E f σ H Q' := by
  refine ⟨F, ρ, m, S, hE, hS, ?_⟩
  cases q : f ρ S with
  | ok a =>
    obtain ⟨d, S1⟩ := a
    rw [q] at h
    exact fun H1 m1 k s => hQ d S1 H1 m1 q k (hE.mono k) s (RunE.mono k h)
  | exc x S' => rw [q] at h; exact h
  | bad => rw [q] at h; exact h
theorem tT_bindT {f : EvT} {g : Bool × Store → Res (Bool × Store)} {Q' : Bool → Hp → Prop} (hE : EnvR G H m (lw F m S) ρ σ) (hS : SR G F H m S) (h : RunT G E F ((f ρ S).bind g) H m (lv m S) QT)
    (hQ : ∀ b S1 H1 m1, f ρ S = .ok (b, S1) → Kp H m (lv m S) H1 m1 (lv m1 S1) → EnvR G H1 m1 (lw F m1 S1) ρ σ → SR G F H1 m1 S1 → RunT G E F (g (b, S1)) H1 m1 (lv m1 S1) QT → Q' b H1) : tT G E f σ H Q' := by
  refine ⟨F, ρ, m, S, hE, hS, ?_⟩
  cases q : f ρ S with
  | ok a =>
    obtain ⟨d, S1⟩ := a
    rw [q] at h
    exact fun H1 m1 k s => hQ d S1 H1 m1 q k (hE.mono k) s (RunT.mono k h)
  | exc x S' => rw [q] at h; exact h
  | bad => rw [q] at h; exact h
/-- the run ends here -/
theorem RunE.here {d : D} {v : V} (h : RunE G E F (.ok (d, S)) H m (lv m S) Q) (s : SR G F H m S) (r : VD G H m (lw F m S) d v) : Q v H := h v H m .refl s r
theorem RunT.here {b : Bool} (h : RunT G E F (.ok (b, S)) H m (lv m S) QT) (s : SR G F H m S) : QT b H := h H m .refl s
theorem RunA.here {d : List D} {v : List V} (h : RunA G E F (.ok (d, S)) H m (lv m S) QA) (s : SR G F H m S) (r : VDs G H m (lw F m S) d v) : QA v H := h v H m .refl s r
/-- .. with a new object that is no cell -/
theorem RunE.made {d : D} {p : Addr} {o : HO} (h : RunE G E F (.ok (d, S)) H m (lv m S) Q) (s : SR G F H m S) (hp : H p = none) (r : VD G (upd H p o) m (lw F m S) d (.ref p)) : Q (.ref p) (upd H p o) :=
  h _ _ m (Kp.new s hp) (s.new hp) r
/-- .. with a new cell -/
theorem RunE.madeC {c : Cell} {p : Addr} {o : HO} (h : RunE G E F (.ok (.ref S.length, S ++ [c])) H m (lv m S) Q) (s : SR G F H m S) (hp : H p = none)
    (hc : CellOk G (upd H p o) (m ++ [p]) (lw F (m ++ [p]) (S ++ [c])) c p) : Q (.ref p) (upd H p o) :=
  h _ _ (m ++ [p]) (Kp.push s hp) (s.push hp hc) (.ref (by rw [s.len]; simp))
end

/-- weaken a reading -/
theorem PE.weak {X : Cx} {e : Expr} {t t' : TE} (h : PE X e t) (w : ∀ σ H Q, t' σ H Q → t σ H Q) : PE X e t' := ⟨fun pins s σ H Q I q => h.run pins s σ H Q I (w σ H Q q)⟩
theorem PT.weak {X : Cx} {e : Expr} {t t' : TT} (h : PT X e t) (w : ∀ σ H Q, t' σ H Q → t σ H Q) : PT X e t' := ⟨fun pins s σ H Q I q => h.run pins s σ H Q I (w σ H Q q)⟩
theorem PW.weak {X : Cx} {e : Expr} {t t' : TT} (h : PW X e t) (w : ∀ σ H Q, t' σ H Q → t σ H Q) : PW X e t' := ⟨fun wh pins s σ H Q I q => h.run wh pins s σ H Q I (w σ H Q q)⟩
theorem PA.weak {X : Cx} {e : List Expr} {t t' : TA} (h : PA X e t) (w : ∀ σ H Q, t' σ H Q → t σ H Q) : PA X e t' := ⟨fun pos pins s σ H Q I q => h.run pos pins s σ H Q I (w σ H Q q)⟩
theorem PS.weak {X : Cx} {e : Stmt} {t t' : TS} (h : PS X e t) (w : ∀ Dn σ H, t' Dn σ H → t Dn σ H) : PS X e t' := ⟨fun pins s σ H Dn I q => h.run pins s σ H Dn I (w Dn σ H q)⟩
theorem PSs.weak {X : Cx} {e : List Stmt} {t t' : TS} (h : PSs X e t) (w : ∀ Dn σ H, t' Dn σ H → t Dn σ H) : PSs X e t' := ⟨fun pins s σ H Dn I q => h.run pins s σ H Dn I (w Dn σ H q)⟩

/-- what a body's context gives -/
structure Wf (X : Cx) (G : Ga) : Prop where
  K : X.K = G.K
  nd : G.nm.Nodup
  units : X.A.units + 70 < cLine
  guards : X.A.guards = some []

/-! ### names, constants -/
def eVar (i : Nat) : EvE := fun ρ S => match ρ[i]? with
  | some (some d) => .ok (d, S)
  | _ => .bad
def eC (d : D) : EvE := fun _ S => .ok (d, S)
section
variable {X : Cx} {G : Ga} {E : XK}
theorem x_var (i : Nat) {x : Str} {pos : Pos} (hN : X.N[i]? = some x := by rfl) (hv : Vis X.env.scope x := by first | exact Or.inl rfl | exact Or.inr (Or.inl rfl) | exact Or.inr (Or.inr rfl)) (hd : (x == ("__debug__" : Str)) = false := by decide)
    (hcd : (x == ("__classdict__" : Str)) = false := by decide) : PE X (.Name x pos) (tX G E (eVar i)) :=
  PE.weak (pe_var hN hv hd hcd) fun σ H Q ⟨F, ρ, m, S, hE, hS, h⟩ => by
    unfold eVar at h
    cases q : ρ[i]? with
    | none => rw [q] at h; exact h.elim
    | some o =>
      cases o with
      | none => rw [q] at h; exact h.elim
      | some d =>
        rw [q] at h
        obtain ⟨v, h1, h2⟩ := hE.2 i d q
        exact ⟨v, h1, RunE.here h hS h2⟩
theorem x_int {i j pos} : PE X (.Constant (.int i) j pos) (tX G E (eC (.int i))) := PE.weak pe_int fun σ H Q ⟨F, ρ, m, S, hE, hS, h⟩ => RunE.here h hS (.int i)
theorem x_bl {b j pos} : PE X (.Constant (.bool b) j pos) (tX G E (eC (.bl b))) := PE.weak pe_bl fun σ H Q ⟨F, ρ, m, S, hE, hS, h⟩ => RunE.here h hS (.bl b)
theorem x_non {j pos} : PE X (.Constant .none j pos) (tX G E (eC .non)) := PE.weak pe_non fun σ H Q ⟨F, ρ, m, S, hE, hS, h⟩ => RunE.here h hS .non
theorem x_str {x j pos} : PE X (.Constant (.str x) j pos) (tX G E (eC (.str x))) := PE.weak pe_str fun σ H Q ⟨F, ρ, m, S, hE, hS, h⟩ => RunE.here h hS (.str x)

/-! ### two-place operations by values -/
def ofO (S : Store) : Option D → Res (D × Store)
  | some d => .ok (d, S)
  | none => .bad
def eBin (f : Store → D → D → Option D) (fa fb : EvE) : EvE := fun ρ S => (fa ρ S).bind fun p => (fb ρ p.2).bind fun q => ofO q.2 (f q.2 p.1 q.1)
/-- r is asked no more than f says -/
def OpS (G : Ga) (E : XK) (r : R2) (f : Store → D → D → Option D) : Prop :=
  ∀ (F : List Addr) (S : Store) (H : Hp) (m : List Addr) (dx dy : D) (x y : V) (Q : VK), SR G F H m S → VD G H m (lw F m S) dx x → VD G H m (lw F m S) dy y → RunE G E F (ofO S (f S dx dy)) H m (lv m S) Q → r x y H Q
variable {a b : Expr} {fa fb : EvE} {r : R2} {f : Store → D → D → Option D} {pos : Pos}
theorem tOp_of (hs : OpS G E r f) {σ : L2.St} {H : Hp} {Q : VK} (h : tX G E (eBin f fa fb) σ H Q) : tOp r (tX G E fa) (tX G E fb) σ H Q := by
  obtain ⟨F, ρ, m, S, hE, hS, h⟩ := h
  exact tX_bind hE hS h fun d S1 v H1 m1 _ k1 e1 s1 r1 h1 => tX_bind e1 s1 h1 fun d2 S2 v2 H2 m2 _ k2 e2 s2 r2 h2 => hs F S2 H2 m2 d d2 v v2 Q s2 (r1.mono k2) r2 h2
theorem x_bin {op : Operator} (ha : PE X a (tX G E fa)) (hb : PE X b (tX G E fb)) (ho : OpR X (binaryOp op) r) (hs : OpS G E r f) : PE X (.BinOp a op b pos) (tX G E (eBin f fa fb)) :=
  PE.weak (pe_op ho ha hb) fun _ _ _ h => tOp_of hs h
theorem x_cmp {op : CmpOp} (ha : PE X a (tX G E fa)) (hb : PE X b (tX G E fb)) (ho : OpR X (compareOp op) r) (hs : OpS G E r f) (hm : behindInMarks op b = false := by first | exact nobehind _ (by decide) (by decide) | rfl) : PE X (.Compare a [op] [b] pos) (tX G E (eBin f fa fb)) :=
  PE.weak (pe_cmpR ho ha hb hm) fun _ _ _ h => tOp_of hs h
theorem opR_or {g : Value → Value → Sem Value} {r r' : R2} (h : OpR X g r) (h' : OpR X g r') : OpR X g (fun x y H Q => r x y H Q ∨ r' x y H Q) := fun pins s σ H x y v u Q I rx ry q =>
  q.elim (fun q => h pins s σ H x y v u Q I rx ry q) fun q => h' pins s σ H x y v u Q I rx ry q
theorem opR_no {g : Value → Value → Sem Value} : OpR X g (fun _ _ _ _ => False) := fun _ _ _ _ _ _ _ _ _ _ _ _ q => q.elim
end
end Pd
end
section
/-! Pd, part C: the operators. -/
namespace Pd
open PySem PySem.Spec PyProof.Rows L2

/-! ### what a value holds -/
def seqL (S : Store) : D → Option (List D)
  | .lst xs => some xs
  | .scr xs => some xs
  | .ref n => match S[n]? with
    | some (.lst xs) => some xs
    | _ => none
  | _ => none
def seqM (S : Store) : D → Option (List D)
  | .lst xs => some xs
  | .ref n => match S[n]? with
    | some (.lst xs) => some xs
    | _ => none
  | _ => none
section
variable {G : Ga} {F : List Addr} {H : Hp} {m : List Addr} {S : Store} {d : D} {v : V} {xs : List D}
theorem seqM_ok (s : SR G F H m S) (r : VD G H m (lw F m S) d v) (h : seqM S d = some xs) : ∃ a ys, v = .ref a ∧ H a = some (.lst ys) ∧ VDs G H m (lw F m S) xs ys := by
  cases r with
  | lst h1 h2 h3 => cases h; exact ⟨_, _, rfl, h1, h3⟩
  | ref h1 =>
    rename_i n a
    unfold seqM at h
    cases q : S[n]? with
    | none => simp [q] at h
    | some c =>
      cases c with
      | lst zs =>
        simp [q] at h
        subst h
        obtain ⟨ys, h2, h3⟩ := s.list q h1
        exact ⟨a, ys, rfl, h2, h3⟩
      | dead => simp [q] at h
      | ins _ _ => simp [q] at h
      | dct _ => simp [q] at h
      | tbl _ => simp [q] at h
  | _ => cases h
theorem seqL_ok (s : SR G F H m S) (r : VD G H m (lw F m S) d v) (h : seqL S d = some xs) : ∃ a ys, v = .ref a ∧ SqL G.K H a ys ∧ VDs G H m (lw F m S) xs ys := by
  cases r with
  | lst h1 h2 h3 => cases h; exact ⟨_, _, rfl, SqL.of h1, h3⟩
  | scr h1 h3 => cases h; exact ⟨_, _, rfl, h1.sq, h3⟩
  | ref h1 =>
    obtain ⟨a, ys, e, h2, h3⟩ := seqM_ok s (.ref h1) (show seqM S _ = some xs from h)
    exact ⟨a, ys, e, SqL.of h2, h3⟩
  | _ => cases h
/-- a new tuple, a new list that stays -/
theorem VD.newT {p : Addr} {o : Obj} {ys : List V} (s : SR G F H m S) (hp : H p = none) (ho : o.dict = none) (r : VDs G H m (lw F m S) xs ys) : VD G (upd H p (.frz o (.tup ys))) m (lw F m S) (.tup xs) (.ref p) :=
  .tup (.inl ⟨⟨o, upd_same, ho⟩, fun z => s.freshF hp z⟩) (r.mono (Kp.new s hp))
theorem VD.newL {p : Addr} {ys : List V} (s : SR G F H m S) (hp : H p = none) (r : VDs G H m (lw F m S) xs ys) : VD G (upd H p (.lst ys)) m (lw F m S) (.lst xs) (.ref p) :=
  .lst upd_same (fun z => s.freshF hp z) (r.mono (Kp.new s hp))
theorem CellOk.newL {p : Addr} {ys : List V} (s : SR G F H m S) (hp : H p = none) (r : VDs G H m (lw F m S) xs ys) : CellOk G (upd H p (.lst ys)) (m ++ [p]) (lw F (m ++ [p]) (S ++ [.lst xs])) (.lst xs) p :=
  ⟨ys, upd_same, r.mono (Kp.push s hp)⟩
end

/-! ### sums -/
def addD (S : Store) (x y : D) : Option D := match x, y with
  | .int a, .int b => some (.int (a + b))
  | .str a, .str b => if a.length + b.length ≤ 16777216 then some (.str (a ++ b)) else none
  | .tup a, .tup b => if a.length + b.length ≤ 16777216 then some (.tup (a ++ b)) else none
  | x, y => match seqM S x, seqM S y with
    | some a, some b => if a.length + b.length ≤ 16777216 then some (.lst (a ++ b)) else none
    | _, _ => none
def rAddD (K : PySem.W.Frag) : R2 := fun x y H Q => rI0 (fun i j => .int (i + j)) x y H Q ∨ (∃ i j, x = .str i ∧ y = .str j ∧ i.length + j.length ≤ sizeLine ∧ Q (.str (i ++ j)) H) ∨ rCatP K x y H Q ∨ rCat x y H Q
section
variable {X : Cx} {G : Ga} {E : XK}
theorem opr_add (W : Wf X G) : OpR X (binaryOp .Add) (rAddD G.K) := by
  have h := opR_or (op_add (X := X)) (opR_or op_add_str (opR_or op_catP op_cat))
  rw [W.K] at h
  exact h
theorem sz {n : Nat} (h : n ≤ 16777216) : n ≤ sizeLine := by rw [sizeLine_eq]; exact h
theorem ops_add : OpS G E (rAddD G.K) addD := by
  intro F S H m dx dy x y Q s rx ry h
  unfold addD at h
  split at h
  · cases rx; cases ry
    exact .inl ⟨_, _, rfl, rfl, RunE.here h s (.int _)⟩
  · cases rx; cases ry
    split at h
    · rename_i hz
      exact .inr (.inl ⟨_, _, rfl, rfl, sz hz, RunE.here h s (.str _)⟩)
    · exact h.elim
  · split at h
    · rename_i hz
      cases rx with
      | tup hx rx =>
        cases ry with
        | tup hy ry =>
          refine .inr (.inr (.inl ⟨_, _, _, _, rfl, rfl, hx.sq, hy.sq, by rw [← rx.length, ← ry.length]; exact sz hz, fun e => ?_, fun _ e => ?_, fun _ _ p o hp ho => RunE.made h s hp (VD.newT s hp ho (rx.append ry))⟩))
          · subst e
            cases rx
            exact RunE.here h s (.tup hy ry)
          · subst e
            cases ry
            rw [List.append_nil] at h
            exact RunE.here h s (.tup hx rx)
    · exact h.elim
  · split at h
    · rename_i a b e1 e2
      split at h
      · rename_i hz
        obtain ⟨p, xs, rfl, h1, r1⟩ := seqM_ok s rx e1
        obtain ⟨q, ys, rfl, h2, r2⟩ := seqM_ok s ry e2
        exact .inr (.inr (.inr ⟨_, _, _, _, rfl, rfl, h1, h2, by rw [← r1.length, ← r2.length]; exact sz hz, fun p hp => RunE.made h s hp (VD.newL s hp (r1.append r2))⟩))
      · exact h.elim
    · exact h.elim
variable {a b : Expr} {fa fb : EvE} {pos : Pos}
theorem x_add (W : Wf X G) (ha : PE X a (tX G E fa)) (hb : PE X b (tX G E fb)) : PE X (.BinOp a .Add b pos) (tX G E (eBin addD fa fb)) := x_bin ha hb (opr_add W) ops_add

/-! ### ints -/
def intD (f : Int → Int → Option D) (_ : Store) (x y : D) : Option D := match x, y with
  | .int a, .int b => f a b
  | _, _ => none
theorem ops_int {C : Int → Int → Prop} {g : Int → Int → V} {f : Int → Int → Option D} (hf : ∀ i j d, f i j = some d → C i j ∧ (∀ (H : Hp) m L, VD G H m L d (g i j))) : OpS G E (rI C g) (intD f) := by
  intro F S H m dx dy x y Q s rx ry h
  unfold intD at h
  split at h
  · cases rx; cases ry
    rename_i i j
    cases q : f i j with
    | none => rw [q] at h; exact h.elim
    | some d =>
      rw [q] at h
      obtain ⟨h1, h2⟩ := hf _ _ _ q
      exact ⟨_, _, rfl, rfl, h1, RunE.here h s (h2 _ _ _)⟩
  · exact h.elim
theorem ops_int0 {g : Int → Int → V} {f : Int → Int → Option D} (hf : ∀ i j d, f i j = some d → (∀ (H : Hp) m L, VD G H m L d (g i j))) : OpS G E (rI0 g) (intD f) := by
  intro F S H m dx dy x y Q s rx ry h
  unfold intD at h
  split at h
  · cases rx; cases ry
    rename_i i j
    cases q : f i j with
    | none => rw [q] at h; exact h.elim
    | some d =>
      rw [q] at h
      exact ⟨_, _, rfl, rfl, RunE.here h s (hf _ _ _ q _ _ _)⟩
  · exact h.elim
def subD := intD fun a b => some (.int (a - b))
def fdivD := intD fun a b => if 0 < b ∧ b.natAbs.log2 < 9000 then some (.int (a / b)) else none
def modD := intD fun a b => if 0 < b then some (.int (a % b)) else none
def powD := intD fun a b => if 0 ≤ b ∧ b ≤ 1000000 ∧ a.natAbs < 2 ^ 64 then some (.int (a ^ b.toNat)) else none
theorem x_sub (ha : PE X a (tX G E fa)) (hb : PE X b (tX G E fb)) : PE X (.BinOp a .Sub b pos) (tX G E (eBin subD fa fb)) :=
  x_bin ha hb op_sub (ops_int0 fun i j d h H m L => by cases h; exact .int _)
theorem x_fdiv (ha : PE X a (tX G E fa)) (hb : PE X b (tX G E fb)) : PE X (.BinOp a .FloorDiv b pos) (tX G E (eBin fdivD fa fb)) :=
  x_bin ha hb op_fdivW (ops_int fun i j d h => by
    split at h
    · rename_i c
      cases h
      exact ⟨c, fun _ _ _ => .int _⟩
    · cases h)
theorem x_mod (ha : PE X a (tX G E fa)) (hb : PE X b (tX G E fb)) : PE X (.BinOp a .Mod b pos) (tX G E (eBin modD fa fb)) :=
  x_bin ha hb op_mod (ops_int fun i j d h => by
    split at h
    · rename_i c
      cases h
      exact ⟨c, fun _ _ _ => .int _⟩
    · cases h)
theorem x_pow (ha : PE X a (tX G E fa)) (hb : PE X b (tX G E fb)) : PE X (.BinOp a .Pow b pos) (tX G E (eBin powD fa fb)) :=
  x_bin ha hb op_pow (ops_int fun i j d h => by
    split at h
    · rename_i c
      cases h
      exact ⟨c, fun _ _ _ => .int _⟩
    · cases h)
/-- products -/
def mulOk (i j : Int) : Bool := decide ((-18446744073709551616 < i ∧ i < 18446744073709551616) ∨ (-18446744073709551616 < j ∧ j < 18446744073709551616))
def mulD (S : Store) (x y : D) : Option D := match x, y with
  | .int a, .int b => if mulOk a b = true then some (.int (a * b)) else none
  | x, .int k => match seqM S x with
    | some a => if -1000000 ≤ k ∧ k ≤ 1000000 ∧ a.length * k.toNat ≤ 16777216 then some (.lst (List.replicate k.toNat a).flatten) else none
    | none => none
  | _, _ => none
def rMulD : R2 := fun x y H Q => rI CMul (fun i j => .int (i * j)) x y H Q ∨ rRep x y H Q
theorem VDs.rep {H : Hp} {m L : List Addr} {xs : List D} {ys : List V} (r : VDs G H m L xs ys) : ∀ n : Nat, VDs G H m L (List.replicate n xs).flatten (List.replicate n ys).flatten
  | 0 => .nil
  | n + 1 => by
    rw [List.replicate_succ, List.replicate_succ, List.flatten_cons, List.flatten_cons]
    exact r.append (VDs.rep r n)
theorem ops_mul : OpS G E rMulD mulD := by
  intro F S H m dx dy x y Q s rx ry h
  unfold mulD at h
  split at h
  · cases rx; cases ry
    split at h
    · rename_i c
      have c' := of_decide_eq_true c
      exact .inl ⟨_, _, rfl, rfl, c', RunE.here h s (.int _)⟩
    · exact h.elim
  · split at h
    · rename_i a e
      split at h
      · rename_i c
        cases ry
        obtain ⟨p, ys, rfl, h1, r1⟩ := seqM_ok s rx e
        exact .inr ⟨_, _, _, rfl, rfl, h1, by omega, by omega, by rw [← r1.length]; exact sz c.2.2, fun p hp => RunE.made h s hp (VD.newL s hp (r1.rep _))⟩
      · exact h.elim
    · exact h.elim
  · exact h.elim
theorem x_mul (ha : PE X a (tX G E fa)) (hb : PE X b (tX G E fb)) : PE X (.BinOp a .Mult b pos) (tX G E (eBin mulD fa fb)) := x_bin ha hb (opR_or op_mul op_rep) ops_mul
/-- -a -/
def eUn (f : D → Option D) (fa : EvE) : EvE := fun ρ S => (fa ρ S).bind fun p => ofO p.2 (f p.1)
def negD : D → Option D
  | .int i => some (.int (-i))
  | _ => none
theorem x_neg (ha : PE X a (tX G E fa)) : PE X (.UnaryOp .USub a pos) (tX G E (eUn negD fa)) := PE.weak (pe_un un_neg ha) fun σ H Q ⟨F, ρ, m, S, hE, hS, h⟩ => by
  refine tX_bind hE hS h fun d S1 v H1 m1 _ k1 e1 s1 r1 h1 => ?_
  cases r1 with
  | int i => exact ⟨_, rfl, RunE.here h1 s1 (.int _)⟩
  | _ => exact h1.elim

/-! ### comparisons -/
def ltS (a b : Str) : Bool := decide (a.cps.toList < b.cps.toList)
def ltD (_ : Store) (x y : D) : Option D := match x, y with
  | .int a, .int b => some (.bl (decide (a < b)))
  | .str a, .str b => some (.bl (ltS a b))
  | _, _ => none
def gtD (_ : Store) (x y : D) : Option D := match x, y with
  | .int a, .int b => some (.bl (decide (b < a)))
  | .str a, .str b => some (.bl (ltS b a))
  | _, _ => none
def leD (_ : Store) (x y : D) : Option D := match x, y with
  | .int a, .int b => some (.bl (decide (a ≤ b)))
  | .str a, .str b => some (.bl (!ltS b a))
  | _, _ => none
def geD (_ : Store) (x y : D) : Option D := match x, y with
  | .int a, .int b => some (.bl (decide (b ≤ a)))
  | .str a, .str b => some (.bl (!ltS a b))
  | _, _ => none
def rCmpD (g : Int → Int → Bool) (k : Str → Str → Bool) : R2 := fun x y H Q => rI0 (fun i j => .bl (g i j)) x y H Q ∨ ∃ i j, x = .str i ∧ y = .str j ∧ Q (.bl (k i j)) H
theorem ops_cmp {g : Int → Int → Bool} {k : Str → Str → Bool} {f : Store → D → D → Option D} (hf : ∀ S x y d, f S x y = some d → (∃ a b, x = .int a ∧ y = .int b ∧ d = .bl (g a b)) ∨ ∃ a b, x = .str a ∧ y = .str b ∧ d = .bl (k a b)) : OpS G E (rCmpD g k) f := by
  intro F S H m dx dy x y Q s rx ry h
  cases q : f S dx dy with
  | none => rw [q] at h; exact h.elim
  | some d =>
    rw [q] at h
    rcases hf _ _ _ _ q with ⟨a, b, rfl, rfl, rfl⟩ | ⟨a, b, rfl, rfl, rfl⟩
    · cases rx; cases ry
      exact .inl ⟨_, _, rfl, rfl, RunE.here h s (.bl _)⟩
    · cases rx; cases ry
      exact .inr ⟨_, _, rfl, rfl, RunE.here h s (.bl _)⟩
theorem ops_lt : OpS G E (rCmpD (fun i j => decide (i < j)) ltS) ltD := ops_cmp fun S x y d h => by
  unfold ltD at h
  split at h
  · cases h; exact .inl ⟨_, _, rfl, rfl, rfl⟩
  · cases h; exact .inr ⟨_, _, rfl, rfl, rfl⟩
  · cases h
theorem ops_gt : OpS G E (rCmpD (fun i j => decide (j < i)) fun i j => ltS j i) gtD := ops_cmp fun S x y d h => by
  unfold gtD at h
  split at h
  · cases h; exact .inl ⟨_, _, rfl, rfl, rfl⟩
  · cases h; exact .inr ⟨_, _, rfl, rfl, rfl⟩
  · cases h
theorem ops_le : OpS G E (rCmpD (fun i j => decide (i ≤ j)) fun i j => !ltS j i) leD := ops_cmp fun S x y d h => by
  unfold leD at h
  split at h
  · cases h; exact .inl ⟨_, _, rfl, rfl, rfl⟩
  · cases h; exact .inr ⟨_, _, rfl, rfl, rfl⟩
  · cases h
theorem ops_ge : OpS G E (rCmpD (fun i j => decide (j ≤ i)) fun i j => !ltS i j) geD := ops_cmp fun S x y d h => by
  unfold geD at h
  split at h
  · cases h; exact .inl ⟨_, _, rfl, rfl, rfl⟩
  · cases h; exact .inr ⟨_, _, rfl, rfl, rfl⟩
  · cases h
theorem opr_lt : OpR X (compareOp .Lt) (rCmpD (fun i j => decide (i < j)) ltS) := opR_or op_lt op_lt_str
theorem opr_gt : OpR X (compareOp .Gt) (rCmpD (fun i j => decide (j < i)) fun i j => ltS j i) := opR_or op_gt op_gt_str
theorem opr_le : OpR X (compareOp .LtE) (rCmpD (fun i j => decide (i ≤ j)) fun i j => !ltS j i) := opR_or op_le op_le_str
theorem opr_ge : OpR X (compareOp .GtE) (rCmpD (fun i j => decide (j ≤ i)) fun i j => !ltS i j) := opR_or op_ge op_ge_str

/-! ### data of one kind with the library's -/
mutual
def pyF (rec : D → Option PyData) (S : Store) : D → Option PyData
  | .non => some .none
  | .bl b => some (.bool b)
  | .int i => some (.int i)
  | .str s => some (.str s)
  | .tup xs => (pyFs rec S xs).map .tuple
  | .lst xs => (pyFs rec S xs).map .list
  | .scr xs => (pyFs rec S xs).map .list
  | .ins _ _ => none
  | .dct _ => none
  | .ext _ _ => none
  | .cl _ => none
  | .exn _ _ => none
  | .ref n => match S[n]? with
    | some (.lst xs) => (xs.mapM rec).map .list
    | _ => none
def pyFs (rec : D → Option PyData) (S : Store) : List D → Option (List PyData)
  | [] => some []
  | d :: r => match pyF rec S d with
    | some p => match pyFs rec S r with
      | some q => some (p :: q)
      | none => none
    | none => none
end
def py (S : Store) : Nat → D → Option PyData
  | 0 => pyF (fun _ => none) S
  | n + 1 => pyF (py S n) S
section
variable {F : List Addr} {H : Hp} {m : List Addr} {S : Store}
theorem mapM_dp {rec : D → Option PyData} (hr : ∀ d v p, VD G H m (lw F m S) d v → rec d = some p → Dp G.K H v p) : ∀ {xs : List D} {ys : List V} {ps : List PyData}, VDs G H m (lw F m S) xs ys → xs.mapM rec = some ps → DpAll G.K H ys ps
  | _, _, ps, .nil, h => by
    have e : ps = [] := by simpa using h.symm
    subst e
    exact .nil
  | _, _, ps, .cons (d := d) (ds := ds) r t, h => by
    rw [List.mapM_cons] at h
    cases q : rec d with
    | none => rw [q] at h; cases h
    | some p =>
      rw [q] at h
      cases q2 : ds.mapM rec with
      | none => rw [q2] at h; cases h
      | some qs =>
        rw [q2] at h
        cases h
        exact .cons (hr _ _ _ r q) (mapM_dp hr t q2)
mutual
theorem pyF_dp {rec : D → Option PyData} (s : SR G F H m S) (hr : ∀ d v p, VD G H m (lw F m S) d v → rec d = some p → Dp G.K H v p) : ∀ {d : D} {v : V} {p : PyData}, VD G H m (lw F m S) d v → pyF rec S d = some p → Dp G.K H v p
  | _, _, _, .non, h => by cases h; exact .non
  | _, _, _, .bl b, h => by cases h; exact .bl b
  | _, _, _, .int i, h => by cases h; exact .int i
  | _, _, _, .str x, h => by cases h; exact .str x
  | _, _, _, .tup hx r, h => by
    unfold pyF at h
    obtain ⟨ps, h1, rfl⟩ := Option.map_eq_some_iff.mp h
    exact .tup hx.sq (pyFs_dp s hr r h1)
  | _, _, _, .lst hx _ r, h => by
    unfold pyF at h
    obtain ⟨ps, h1, rfl⟩ := Option.map_eq_some_iff.mp h
    exact .lst (SqL.of hx) (pyFs_dp s hr r h1)
  | _, _, _, .scr hx r, h => by
    unfold pyF at h
    obtain ⟨ps, h1, rfl⟩ := Option.map_eq_some_iff.mp h
    exact .lst hx.sq (pyFs_dp s hr r h1)
  | _, _, _, .ins _ _ _ _, h => by cases h
  | _, _, _, .dct _ _ _, h => by cases h
  | _, _, _, .ext _ _ _ _, h => by cases h
  | _, _, _, .cl _, h => by cases h
  | _, _, _, .exn _ _ _, h => by cases h
  | _, _, p, .ref (n := n) hn, h => by
    unfold pyF at h
    cases q : S[n]? with
    | none => simp [q] at h
    | some c =>
      cases c with
      | lst zs =>
        simp only [q] at h
        obtain ⟨ps, h1, rfl⟩ := Option.map_eq_some_iff.mp h
        obtain ⟨ys, h2, h3⟩ := s.list q hn
        exact .lst (SqL.of h2) (mapM_dp hr h3 h1)
      | dead => simp [q] at h
      | ins _ _ => simp [q] at h
      | dct _ => simp [q] at h
      | tbl _ => simp [q] at h
theorem pyFs_dp {rec : D → Option PyData} (s : SR G F H m S) (hr : ∀ d v p, VD G H m (lw F m S) d v → rec d = some p → Dp G.K H v p) : ∀ {d : List D} {v : List V} {p : List PyData}, VDs G H m (lw F m S) d v → pyFs rec S d = some p → DpAll G.K H v p
  | _, _, _, .nil, h => by cases h; exact .nil
  | _, _, p, .cons (d := d) (ds := ds) r t, h => by
    unfold pyFs at h
    cases q : pyF rec S d with
    | none => simp [q] at h
    | some p1 =>
      simp only [q] at h
      cases q2 : pyFs rec S ds with
      | none => simp [q2] at h
      | some p2 =>
        simp only [q2] at h
        cases h
        exact .cons (pyF_dp s hr r q) (pyFs_dp s hr t q2)
end
theorem py_dp (s : SR G F H m S) : ∀ (n : Nat) {d : D} {v : V} {p : PyData}, VD G H m (lw F m S) d v → py S n d = some p → Dp G.K H v p
  | 0, d, v, p, r, h => pyF_dp s (fun _ _ _ _ h => by cases h) r h
  | n + 1, d, v, p, r, h => pyF_dp s (fun d v p r h => py_dp s n r h) r h
end
/-- == of data -/
def eqD (S : Store) (x y : D) : Option D := match py S 4 x, py S 4 y with
  | some p, some q => if (SeqAt.shaped p && SeqAt.shaped q) = true then some (.bl (PyData.eqv p q)) else none
  | _, _ => none
def neD (S : Store) (x y : D) : Option D := match py S 4 x, py S 4 y with
  | some p, some q => if (SeqAt.shaped p && SeqAt.shaped q) = true then some (.bl (!PyData.eqv p q)) else none
  | _, _ => none
theorem ops_eq : OpS G E (rEqD G.K) eqD := by
  intro F S H m dx dy x y Q s rx ry h
  unfold eqD at h
  split at h
  · rename_i p q e1 e2
    split at h
    · rename_i c
      have c' := Bool.and_eq_true_iff.mp c
      exact ⟨p, q, py_dp s 4 rx e1, py_dp s 4 ry e2, c'.1, c'.2, RunE.here h s (.bl _)⟩
    · exact h.elim
  · exact h.elim
theorem ops_ne : OpS G E (rNeD G.K) neD := by
  intro F S H m dx dy x y Q s rx ry h
  unfold neD at h
  split at h
  · rename_i p q e1 e2
    split at h
    · rename_i c
      have c' := Bool.and_eq_true_iff.mp c
      exact ⟨p, q, py_dp s 4 rx e1, py_dp s 4 ry e2, c'.1, c'.2, RunE.here h s (.bl _)⟩
    · exact h.elim
  · exact h.elim
theorem opr_eq (W : Wf X G) : OpR X (compareOp .Eq) (rEqD G.K) := by
  have h := op_eqD (X := X) (by have := W.units; omega)
  rw [W.K] at h; exact h
theorem opr_ne (W : Wf X G) : OpR X (compareOp .NotEq) (rNeD G.K) := by
  have h := op_neD (X := X) (by have := W.units; omega)
  rw [W.K] at h; exact h
/-- is None -/
def isN (_ : Store) (x y : D) : Option D := match y with
  | .non => match x with
    | .non => some (.bl true)
    | _ => some (.bl false)
  | _ => none
def notN (_ : Store) (x y : D) : Option D := match y with
  | .non => match x with
    | .non => some (.bl false)
    | _ => some (.bl true)
  | _ => none
theorem ops_isN : OpS G E (fun x y H Q => y = .non ∧ Q (.bl (decide (x = .non))) H) isN := by
  intro F S H m dx dy x y Q s rx ry h
  cases ry with
  | non =>
    refine ⟨rfl, ?_⟩
    cases rx <;> first | exact RunE.here (show RunE G E F (.ok (.bl true, S)) H m (lv m S) Q from h) s (.bl _) | exact RunE.here (show RunE G E F (.ok (.bl false, S)) H m (lv m S) Q from h) s (.bl _)
  | _ => exact h.elim
theorem ops_notN : OpS G E (fun x y H Q => y = .non ∧ Q (.bl (!decide (x = .non))) H) notN := by
  intro F S H m dx dy x y Q s rx ry h
  cases ry with
  | non =>
    refine ⟨rfl, ?_⟩
    cases rx <;> first | exact RunE.here (show RunE G E F (.ok (.bl true, S)) H m (lv m S) Q from h) s (.bl _) | exact RunE.here (show RunE G E F (.ok (.bl false, S)) H m (lv m S) Q from h) s (.bl _)
  | _ => exact h.elim
end
end Pd
end
section
/-! Pd, part D: tests, displays, items, calls of built-ins. -/
namespace Pd
open PySem PySem.Spec PyProof.Rows L2

section
variable {X : Cx} {G : Ga} {E : XK} {a b c : Expr} {fa fb fc : EvE} {pos : Pos}

/-! ### in -/
def anyEqv (p : PyData) (ps : List PyData) : Bool := ps.any fun z => PyData.eqv z p
def flatP : PyData → Bool
  | .none => true
  | .bool _ => true
  | .int _ => true
  | .str _ => true
  | _ => false
def inB (S : Store) (x y : D) : Option Bool := match y with
  | .str z => match x with
    | .str w => if w.cps.size = 1 then some (decide (w.cps.getD 0 0 ∈ z.cps.toList)) else none
    | _ => none
  | .tup ys => match py S 4 x, pyFs (fun _ => none) S ys with
    | some p, some ps => if (flatP p && ps.all flatP) = true then some (anyEqv p ps) else none
    | _, _ => none
  | y => match py S 4 x, py S 4 y with
    | some p, some (.list ps) => if (SeqAt.shaped p && SeqAt.shaped (.list ps)) = true then some (anyEqv p ps) else none
    | _, _ => none
def inD (S : Store) (x y : D) : Option D := (inB S x y).map .bl
def notInD (S : Store) (x y : D) : Option D := (inB S x y).map fun b => .bl (!b)
theorem dp_flat {K : PySem.W.Frag} {H : Hp} {v : V} {p : PyData} (h : Dp K H v p) (hf : flatP p = true) : flatV v = true := by
  cases h <;> first | rfl | cases hf
theorem dp_eqV {K : PySem.W.Frag} {H : Hp} {v u : V} {p q : PyData} (h : Dp K H v p) (h' : Dp K H u q) (hf : flatP p = true) (hg : flatP q = true) : eqV v u = PyData.eqv p q := by
  cases h <;> first
    | (cases h' <;> first | rfl | cases hg)
    | cases hf
theorem dp_inV {K : PySem.W.Frag} {H : Hp} {v : V} {p : PyData} (h : Dp K H v p) (hf : flatP p = true) : ∀ {ys : List V} {ps : List PyData}, DpAll K H ys ps → ps.all flatP = true → ys.all flatV = true ∧ inV v ys = anyEqv p ps
  | _, _, .nil, _ => ⟨rfl, rfl⟩
  | _, _, .cons (v := u) (d := q) (vs := vs) (ds := ds) r t, hp => by
    rw [List.all_cons, Bool.and_eq_true] at hp
    obtain ⟨h1, h2⟩ := dp_inV h hf t hp.2
    refine ⟨by rw [List.all_cons, dp_flat r hp.1, h1]; rfl, ?_⟩
    have e := dp_eqV r h hp.1 hf
    unfold inV anyEqv at *
    rw [List.any_cons, List.any_cons, e, h2]
def rInAll (K : PySem.W.Frag) (neg : Bool) : R2 := fun x y H Q =>
  (∃ (c : Nat) (z : Str), x = .str ⟨#[c]⟩ ∧ y = .str z ∧ Q (.bl (if neg then !decide (c ∈ z.cps.toList) else decide (c ∈ z.cps.toList))) H) ∨ rIn K neg x y H Q ∨
  ∃ d ds, Dp K H x d ∧ Dp K H y (.list ds) ∧ SeqAt.shaped d = true ∧ SeqAt.shaped (.list ds) = true ∧ Q (.bl (if neg then !ds.any fun z => PyData.eqv z d else ds.any fun z => PyData.eqv z d)) H
theorem opr_in (W : Wf X G) : OpR X (compareOp .In) (rInAll G.K false) := by
  have h := opR_or (op_in_sign (X := X)) (opR_or op_in_seq (op_inD (by have := W.units; omega)))
  rw [W.K] at h
  exact h
theorem opr_notIn (W : Wf X G) : OpR X (compareOp .NotIn) (rInAll G.K true) := by
  have h := opR_or (op_notIn_sign (X := X)) (opR_or op_notIn_seq (op_notInD (by have := W.units; omega)))
  rw [W.K] at h
  exact h
theorem one_sign {w : Str} (h : w.cps.size = 1) : w = ⟨#[w.cps.getD 0 0]⟩ := by
  obtain ⟨cs⟩ := w
  obtain ⟨l⟩ := cs
  cases l with
  | nil => cases h
  | cons c r =>
    cases r with
    | nil => rfl
    | cons d r => simp at h
theorem ops_inAll (neg : Bool) : OpS G E (rInAll G.K neg) (fun S x y => (inB S x y).map fun b => .bl (if neg then !b else b)) := by
  intro F S H m dx dy x y Q s rx ry h
  cases q : inB S dx dy with
  | none => simp only [q] at h; exact h.elim
  | some k =>
    simp only [q] at h
    have fin : Q (.bl (if neg then !k else k)) H := RunE.here (show RunE G E F (.ok (.bl (if neg then !k else k), S)) H m (lv m S) Q from h) s (.bl _)
    unfold inB at q
    split at q
    · split at q
      · split at q
        · rename_i hz
          cases q
          cases ry
          cases rx
          exact .inl ⟨_, _, congrArg V.str (one_sign hz), rfl, fin⟩
        · cases q
      · cases q
    · split at q
      · rename_i p ps e1 e2
        split at q
        · rename_i c
          have c' := Bool.and_eq_true_iff.mp c
          cases q
          cases ry with
          | tup hy ry =>
            have d1 := py_dp s 4 rx e1
            have d2 := pyFs_dp s (fun _ _ _ _ h => by cases h) ry e2
            obtain ⟨h1, h2⟩ := dp_inV d1 c'.1 d2 c'.2
            exact .inr (.inl ⟨_, _, rfl, .inr hy.sq, dp_flat d1 c'.1, h1, by rw [h2]; exact fin⟩)
        · cases q
      · cases q
    · split at q
      · rename_i p ps e1 e2
        split at q
        · rename_i c
          have c' := Bool.and_eq_true_iff.mp c
          cases q
          exact .inr (.inr ⟨p, ps, py_dp s 4 rx e1, py_dp s 4 ry e2, c'.1, c'.2, fin⟩)
        · cases q
      · cases q
theorem x_in (W : Wf X G) (ha : PE X a (tX G E fa)) (hb : PE X b (tX G E fb)) (hm : behindInMarks .In b = false := by rfl) : PE X (.Compare a [.In] [b] pos) (tX G E (eBin inD fa fb)) := x_cmp ha hb (opr_in W) (ops_inAll false) hm
theorem x_notIn (W : Wf X G) (ha : PE X a (tX G E fa)) (hb : PE X b (tX G E fb)) (hm : behindInMarks .NotIn b = false := by rfl) : PE X (.Compare a [.NotIn] [b] pos) (tX G E (eBin notInD fa fb)) := x_cmp ha hb (opr_notIn W) (ops_inAll true) hm
theorem x_lt (ha : PE X a (tX G E fa)) (hb : PE X b (tX G E fb)) : PE X (.Compare a [.Lt] [b] pos) (tX G E (eBin ltD fa fb)) := x_cmp ha hb opr_lt ops_lt
theorem x_gt (ha : PE X a (tX G E fa)) (hb : PE X b (tX G E fb)) : PE X (.Compare a [.Gt] [b] pos) (tX G E (eBin gtD fa fb)) := x_cmp ha hb opr_gt ops_gt
theorem x_le (ha : PE X a (tX G E fa)) (hb : PE X b (tX G E fb)) : PE X (.Compare a [.LtE] [b] pos) (tX G E (eBin leD fa fb)) := x_cmp ha hb opr_le ops_le
theorem x_ge (ha : PE X a (tX G E fa)) (hb : PE X b (tX G E fb)) : PE X (.Compare a [.GtE] [b] pos) (tX G E (eBin geD fa fb)) := x_cmp ha hb opr_ge ops_ge
theorem x_eq (W : Wf X G) (ha : PE X a (tX G E fa)) (hb : PE X b (tX G E fb)) : PE X (.Compare a [.Eq] [b] pos) (tX G E (eBin eqD fa fb)) := x_cmp ha hb (opr_eq W) ops_eq
theorem x_ne (W : Wf X G) (ha : PE X a (tX G E fa)) (hb : PE X b (tX G E fb)) : PE X (.Compare a [.NotEq] [b] pos) (tX G E (eBin neD fa fb)) := x_cmp ha hb (opr_ne W) ops_ne
theorem x_is (ha : PE X a (tX G E fa)) (hb : PE X b (tX G E fb)) : PE X (.Compare a [.Is] [b] pos) (tX G E (eBin isN fa fb)) := x_cmp ha hb op_isN ops_isN
theorem x_isNot (ha : PE X a (tX G E fa)) (hb : PE X b (tX G E fb)) : PE X (.Compare a [.IsNot] [b] pos) (tX G E (eBin notN fa fb)) := x_cmp ha hb op_notN ops_notN

/-! ### tests -/
def eB (f : EvE) : EvT := fun ρ S => (f ρ S).bind fun p => match p.1 with
  | .bl b => .ok (b, p.2)
  | _ => .bad
theorem tX_of_tT {f : EvE} {σ : L2.St} {H : Hp} {Q : Bool → Hp → Prop} (h : tT G E (eB f) σ H Q) : tX G E f σ H fun x H1 => ∃ k, x = .bl k ∧ Q k H1 := by
  obtain ⟨F, ρ, m, S, hE, hS, h⟩ := h
  refine tX_bindT hE hS h fun d S1 v H1 m1 _ k1 e1 s1 r1 h1 => ?_
  cases r1 with
  | bl b => exact ⟨b, rfl, RunT.here h1 s1⟩
  | _ => exact h1.elim
def truD (S : Store) : D → Option Bool
  | .non => some false
  | .bl b => some b
  | .int i => some (i != 0)
  | .str s => if s.length ≤ 16777216 then some ((s.length : Int) != 0) else none
  | .tup xs => some (!xs.isEmpty)
  | d => (seqL S d).map fun xs => !xs.isEmpty
theorem VDs.empty {H : Hp} {m L : List Addr} {xs : List D} {ys : List V} (r : VDs G H m L xs ys) : (!xs.isEmpty) = !ys.isEmpty := by
  cases r <;> rfl
theorem tru_of {F : List Addr} {H : Hp} {m : List Addr} {S : Store} {d : D} {v : V} {k : Bool} (s : SR G F H m S) (r : VD G H m (lw F m S) d v) (h : truD S d = some k) : TruV G.K v H k := by
  unfold truD at h
  split at h
  · cases r; cases h; exact rfl
  · cases r; cases h; exact rfl
  · cases r; cases h; exact rfl
  · split at h
    · rename_i hz
      cases r; cases h
      exact ⟨sz hz, rfl⟩
    · cases h
  · cases h
    cases r with
    | tup hy ry => exact .inr (.inl ⟨_, hy.sq, ry.empty⟩)
  · obtain ⟨xs, h1, rfl⟩ := Option.map_eq_some_iff.mp h
    obtain ⟨p, ys, rfl, h2, h3⟩ := seqL_ok s r h1
    exact .inl ⟨ys, h2, h3.empty⟩
def eTru (f : EvE) : EvT := fun ρ S => (f ρ S).bind fun p => match truD p.2 p.1 with
  | some b => .ok (b, p.2)
  | none => .bad
theorem t_tru (W : Wf X G) (ha : PE X a (tX G E fa)) (he : ∀ whole, isTrue a X.env whole = (do let v ← whole; standAt a.pos; holding [v] (truthy v)) := by intro _; rfl) : PT X a (tT G E (eTru fa)) :=
  PT.weak (pt_truth ha he) fun σ H Q ⟨F, ρ, m, S, hE, hS, h⟩ => tX_bindT hE hS h fun d S1 v H1 m1 _ k1 e1 s1 r1 h1 => by
    cases q : truD S1 d with
    | none => simp only [q] at h1; exact h1.elim
    | some k =>
      simp only [q] at h1
      exact ⟨k, by rw [W.K]; exact tru_of s1 r1 q, RunT.here h1 s1⟩
/-- a comparison as a test -/
theorem t_cmp {op : CmpOp} {r : R2} {f : Store → D → D → Option D} (ha : PE X a (tX G E fa)) (hb : PE X b (tX G E fb)) (ho : OpR X (compareOp op) r) (hs : OpS G E r f) (hm : behindInMarks op b = false := by first | exact nobehind _ (by decide) (by decide) | rfl) : PT X (.Compare a [op] [b] pos) (tT G E (eB (eBin f fa fb))) :=
  PT.weak (pt_cmpR ho ha hb hm) fun _ _ _ h => tOp_of hs (tX_of_tT h)
theorem t_in (W : Wf X G) (ha : PE X a (tX G E fa)) (hb : PE X b (tX G E fb)) (hm : behindInMarks .In b = false := by rfl) : PT X (.Compare a [.In] [b] pos) (tT G E (eB (eBin inD fa fb))) := t_cmp ha hb (opr_in W) (ops_inAll false) hm
theorem t_notIn (W : Wf X G) (ha : PE X a (tX G E fa)) (hb : PE X b (tX G E fb)) (hm : behindInMarks .NotIn b = false := by rfl) : PT X (.Compare a [.NotIn] [b] pos) (tT G E (eB (eBin notInD fa fb))) := t_cmp ha hb (opr_notIn W) (ops_inAll true) hm
theorem t_lt (ha : PE X a (tX G E fa)) (hb : PE X b (tX G E fb)) : PT X (.Compare a [.Lt] [b] pos) (tT G E (eB (eBin ltD fa fb))) := t_cmp ha hb opr_lt ops_lt
theorem t_gt (ha : PE X a (tX G E fa)) (hb : PE X b (tX G E fb)) : PT X (.Compare a [.Gt] [b] pos) (tT G E (eB (eBin gtD fa fb))) := t_cmp ha hb opr_gt ops_gt
theorem t_le (ha : PE X a (tX G E fa)) (hb : PE X b (tX G E fb)) : PT X (.Compare a [.LtE] [b] pos) (tT G E (eB (eBin leD fa fb))) := t_cmp ha hb opr_le ops_le
theorem t_ge (ha : PE X a (tX G E fa)) (hb : PE X b (tX G E fb)) : PT X (.Compare a [.GtE] [b] pos) (tT G E (eB (eBin geD fa fb))) := t_cmp ha hb opr_ge ops_ge
theorem t_eq (W : Wf X G) (ha : PE X a (tX G E fa)) (hb : PE X b (tX G E fb)) : PT X (.Compare a [.Eq] [b] pos) (tT G E (eB (eBin eqD fa fb))) := t_cmp ha hb (opr_eq W) ops_eq
theorem t_ne (W : Wf X G) (ha : PE X a (tX G E fa)) (hb : PE X b (tX G E fb)) : PT X (.Compare a [.NotEq] [b] pos) (tT G E (eB (eBin neD fa fb))) := t_cmp ha hb (opr_ne W) ops_ne
theorem t_is (ha : PE X a (tX G E fa)) (hb : PE X b (tX G E fb)) : PT X (.Compare a [.Is] [b] pos) (tT G E (eB (eBin isN fa fb))) := t_cmp ha hb op_isN ops_isN
theorem t_isNot (ha : PE X a (tX G E fa)) (hb : PE X b (tX G E fb)) : PT X (.Compare a [.IsNot] [b] pos) (tT G E (eB (eBin notN fa fb))) := t_cmp ha hb op_notN ops_notN
/-- a op b op c -/
def eChain (f g : Store → D → D → Option D) (fa fb fc : EvE) : EvE := fun ρ S => (fa ρ S).bind fun p => (fb ρ p.2).bind fun q => match f q.2 p.1 q.1 with
  | some (.bl true) => (fc ρ q.2).bind fun r => ofO r.2 (g r.2 q.1 r.1)
  | some (.bl false) => .ok (.bl false, q.2)
  | _ => .bad
theorem chain_of {r r' : R2} {f g : Store → D → D → Option D} (hr : OpS G E r f) (hr' : OpS G E r' g) {σ : L2.St} {H : Hp} {Q : VK} (h : tX G E (eChain f g fa fb fc) σ H Q) : tChain r r' (tX G E fa) (tX G E fb) (tX G E fc) σ H Q := by
  obtain ⟨F, ρ, m, S, hE, hS, h⟩ := h
  refine tX_bind hE hS h fun d S1 v H1 m1 _ k1 e1 s1 r1 h1 => tX_bind e1 s1 h1 fun d2 S2 v2 H2 m2 _ k2 e2 s2 r2 h2 => ?_
  refine hr F S2 H2 m2 d d2 v v2 _ s2 (r1.mono k2) r2 ?_
  revert h2
  simp only
  split
  · rename_i q
    intro h2
    rw [q]
    intro u H3 m3 k3 s3 r3
    cases r3 with
    | bl =>
      refine ⟨true, rfl, ?_⟩
      rw [if_pos rfl]
      have e3 := e2.mono k3
      exact tX_bind e3 s3 (RunE.mono k3 h2) fun d4 S4 v4 H4 m4 _ k4 e4 s4 r4 h4 => hr' F S4 H4 m4 d2 d4 v2 v4 Q s4 ((r2.mono k3).mono k4) r4 h4
  · rename_i q
    intro h2
    rw [q]
    intro u H3 m3 k3 s3 r3
    cases r3 with
    | bl =>
      refine ⟨false, rfl, ?_⟩
      rw [if_neg Bool.false_ne_true]
      exact h2 _ _ _ k3 s3 (.bl _)
  · intro h2
    exact h2.elim
theorem x_chain {op op' : CmpOp} {r r' : R2} {f g : Store → D → D → Option D} (ho : OpR X (compareOp op) r) (hr : OpS G E r f) (ho' : OpR X (compareOp op') r') (hr' : OpS G E r' g) (ha : PE X a (tX G E fa)) (hb : PE X b (tX G E fb)) (hc : PE X c (tX G E fc))
    (hm : lastMarks [op, op'] [b, c] = false := by with_unfolding_all rfl) : PE X (.Compare a [op, op'] [b, c] pos) (tX G E (eChain f g fa fb fc)) := PE.weak (pe_chain ho ho' ha hb hc hm) fun _ _ _ h => chain_of hr hr' h
theorem t_chain {op op' : CmpOp} {r r' : R2} {f g : Store → D → D → Option D} (ho : OpR X (compareOp op) r) (hr : OpS G E r f) (ho' : OpR X (compareOp op') r') (hr' : OpS G E r' g) (ha : PE X a (tX G E fa)) (hb : PE X b (tX G E fb)) (hc : PE X c (tX G E fc))
    (hm : lastMarks [op, op'] [b, c] = false := by with_unfolding_all rfl) : PT X (.Compare a [op, op'] [b, c] pos) (tT G E (eB (eChain f g fa fb fc))) := PT.weak (pt_chain ho ho' ha hb hc hm) fun _ _ _ h => chain_of hr hr' (tX_of_tT h)

/-! ### and, or, not, if -/
def eAndT (f g : EvT) : EvT := fun ρ S => (f ρ S).bind fun p => if p.1 = true then g ρ p.2 else .ok (false, p.2)
def eOrT (f g : EvT) : EvT := fun ρ S => (f ρ S).bind fun p => if p.1 = true then .ok (true, p.2) else g ρ p.2
def eNotT (f : EvT) : EvT := fun ρ S => (f ρ S).bind fun p => .ok (!p.1, p.2)
variable {ta tb : EvT} {rest : List Expr}
theorem w_and1 (ha : PT X a (tT G E ta)) : PW X (.BoolOp .And [a] pos) (tT G E ta) := pw_and1 ha
theorem w_or1 (ha : PT X a (tT G E ta)) : PW X (.BoolOp .Or [a] pos) (tT G E ta) := pw_or1 ha
theorem w_and (ha : PT X a (tT G E ta)) (hb : PW X (.BoolOp .And (b :: rest) pos) (tT G E tb)) : PW X (.BoolOp .And (a :: b :: rest) pos) (tT G E (eAndT ta tb)) :=
  PW.weak (pw_and ha hb) fun σ H Q ⟨F, ρ, m, S, hE, hS, h⟩ => tT_bindT hE hS h fun k S1 H1 m1 _ k1 e1 s1 h1 => by
    cases k with
    | true => exact ⟨F, ρ, m1, S1, e1, s1, h1⟩
    | false => exact RunT.here (show RunT G E F (.ok (false, S1)) H1 m1 (lv m1 S1) Q from h1) s1
theorem w_or (ha : PT X a (tT G E ta)) (hb : PW X (.BoolOp .Or (b :: rest) pos) (tT G E tb)) : PW X (.BoolOp .Or (a :: b :: rest) pos) (tT G E (eOrT ta tb)) :=
  PW.weak (pw_or ha hb) fun σ H Q ⟨F, ρ, m, S, hE, hS, h⟩ => tT_bindT hE hS h fun k S1 H1 m1 _ k1 e1 s1 h1 => by
    cases k with
    | false => exact ⟨F, ρ, m1, S1, e1, s1, h1⟩
    | true => exact RunT.here (show RunT G E F (.ok (true, S1)) H1 m1 (lv m1 S1) Q from h1) s1
theorem t_not (ha : PT X a (tT G E ta)) : PT X (.UnaryOp .Not a pos) (tT G E (eNotT ta)) :=
  PT.weak (pt_not ha) fun σ H Q ⟨F, ρ, m, S, hE, hS, h⟩ => tT_bindT hE hS h fun k S1 H1 m1 _ k1 e1 s1 h1 => RunT.here h1 s1
/-- .. as values -/
def eAnd (f g : EvE) : EvE := fun ρ S => (f ρ S).bind fun p => match truD p.2 p.1 with
  | some true => g ρ p.2
  | some false => .ok p
  | none => .bad
def eOr (f g : EvE) : EvE := fun ρ S => (f ρ S).bind fun p => match truD p.2 p.1 with
  | some true => .ok p
  | some false => g ρ p.2
  | none => .bad
def eNot (f : EvE) : EvE := fun ρ S => (f ρ S).bind fun p => ofO p.2 ((truD p.2 p.1).map fun b => .bl (!b))
theorem x_one {op} (h : PE X a (tX G E fa)) : PE X (.BoolOp op [a] pos) (tX G E fa) := pe_one h
theorem x_and (W : Wf X G) (ha : PE X a (tX G E fa)) (hb : PE X (.BoolOp .And (b :: rest) pos) (tX G E fb)) : PE X (.BoolOp .And (a :: b :: rest) pos) (tX G E (eAnd fa fb)) :=
  PE.weak (pe_andT ha hb) fun σ H Q ⟨F, ρ, m, S, hE, hS, h⟩ => tX_bind hE hS h fun d S1 v H1 m1 _ k1 e1 s1 r1 h1 => by
    cases q : truD S1 d with
    | none => simp only [q] at h1; exact h1.elim
    | some k =>
      simp only [q] at h1
      refine ⟨k, by rw [W.K]; exact tru_of s1 r1 q, ?_⟩
      cases k with
      | true => exact ⟨F, ρ, m1, S1, e1, s1, h1⟩
      | false => exact RunE.here (show RunE G E F (.ok (d, S1)) H1 m1 (lv m1 S1) Q from h1) s1 r1
theorem x_or (W : Wf X G) (ha : PE X a (tX G E fa)) (hb : PE X (.BoolOp .Or (b :: rest) pos) (tX G E fb)) : PE X (.BoolOp .Or (a :: b :: rest) pos) (tX G E (eOr fa fb)) :=
  PE.weak (pe_orT ha hb) fun σ H Q ⟨F, ρ, m, S, hE, hS, h⟩ => tX_bind hE hS h fun d S1 v H1 m1 _ k1 e1 s1 r1 h1 => by
    cases q : truD S1 d with
    | none => simp only [q] at h1; exact h1.elim
    | some k =>
      simp only [q] at h1
      refine ⟨k, by rw [W.K]; exact tru_of s1 r1 q, ?_⟩
      cases k with
      | false => exact ⟨F, ρ, m1, S1, e1, s1, h1⟩
      | true => exact RunE.here (show RunE G E F (.ok (d, S1)) H1 m1 (lv m1 S1) Q from h1) s1 r1
theorem x_not (W : Wf X G) (ha : PE X a (tX G E fa)) : PE X (.UnaryOp .Not a pos) (tX G E (eNot fa)) :=
  PE.weak (pe_notT ha) fun σ H Q ⟨F, ρ, m, S, hE, hS, h⟩ => tX_bind hE hS h fun d S1 v H1 m1 _ k1 e1 s1 r1 h1 => by
    cases q : truD S1 d with
    | none => simp only [q] at h1; exact h1.elim
    | some k =>
      simp only [q] at h1
      exact ⟨k, by rw [W.K]; exact tru_of s1 r1 q, RunE.here (show RunE G E F (.ok (.bl (!k), S1)) H1 m1 (lv m1 S1) Q from h1) s1 (.bl _)⟩
def eIf (c : EvT) (f g : EvE) : EvE := fun ρ S => (c ρ S).bind fun p => if p.1 = true then f ρ p.2 else g ρ p.2
theorem x_if {tc : EvT} (hc : PT X c (tT G E tc)) (ha : PE X a (tX G E fa)) (hb : PE X b (tX G E fb)) : PE X (.IfExp c a b pos) (tX G E (eIf tc fa fb)) :=
  PE.weak (pe_ifExp hc ha hb) fun σ H Q ⟨F, ρ, m, S, hE, hS, h⟩ => tT_bind hE hS h fun k S1 H1 m1 _ k1 e1 s1 h1 => by
    cases k with
    | true => exact ⟨F, ρ, m1, S1, e1, s1, h1⟩
    | false => exact ⟨F, ρ, m1, S1, e1, s1, h1⟩

/-! ### argument lists, displays -/
def aNil : EvA := fun _ S => .ok ([], S)
def aCons (f : EvE) (g : EvA) : EvA := fun ρ S => (f ρ S).bind fun p => (g ρ p.2).bind fun q => .ok (p.1 :: q.1, q.2)
variable {es : List Expr} {ga : EvA}
theorem a_nil : PA X [] (tA G E aNil) := PA.weak pa_nil fun σ H Q ⟨F, ρ, m, S, hE, hS, h⟩ => RunA.here h hS .nil
theorem a_cons (ha : PE X a (tX G E fa)) (hr : PA X es (tA G E ga)) (hs : starEach (a :: es) X.env = (false, eval a X.env) :: starEach es X.env := by rfl) : PA X (a :: es) (tA G E (aCons fa ga)) :=
  PA.weak (pa_cons ha hr hs) fun σ H Q ⟨F, ρ, m, S, hE, hS, h⟩ => tX_bindA hE hS h fun d S1 v H1 m1 _ k1 e1 s1 r1 h1 => tA_bindA e1 s1 h1 fun ds S2 vs H2 m2 _ k2 e2 s2 r2 h2 => RunA.here h2 s2 (.cons (r1.mono k2) r2)
def eTup (g : EvA) : EvE := fun ρ S => (g ρ S).bind fun p => if p.1.length ≤ 16777216 then .ok (.tup p.1, p.2) else .bad
def eLst (g : EvA) : EvE := fun ρ S => (g ρ S).bind fun p => if p.1.length ≤ 16777216 then .ok (.lst p.1, p.2) else .bad
/-- a list that will be changed -/
def eCel (g : EvA) : EvE := fun ρ S => (g ρ S).bind fun p => if p.1.length ≤ 16777216 then .ok (.ref p.2.length, p.2 ++ [.lst p.1]) else .bad
theorem x_tup {x1} (h : PA X es (tA G E ga)) : PE X (.Tuple es x1 pos) (tX G E (eTup ga)) :=
  PE.weak (pe_tupP h) fun σ H Q ⟨F, ρ, m, S, hE, hS, h⟩ => tA_bind hE hS h fun ds S1 vs H1 m1 _ k1 e1 s1 r1 h1 => by
    split at h1
    · rename_i hz
      exact ⟨by rw [← r1.length]; exact sz hz, fun p o hp ho => RunE.made h1 s1 hp (VD.newT s1 hp ho r1)⟩
    · exact h1.elim
theorem x_lst (h : PA X es (tA G E ga)) : PE X (.List es pos) (tX G E (eLst ga)) :=
  PE.weak (pe_lst h) fun σ H Q ⟨F, ρ, m, S, hE, hS, h⟩ => tA_bind hE hS h fun ds S1 vs H1 m1 _ k1 e1 s1 r1 h1 => by
    split at h1
    · rename_i hz
      exact ⟨by rw [← r1.length]; exact sz hz, fun p hp => RunE.made h1 s1 hp (VD.newL s1 hp r1)⟩
    · exact h1.elim
theorem x_cel (h : PA X es (tA G E ga)) : PE X (.List es pos) (tX G E (eCel ga)) :=
  PE.weak (pe_lst h) fun σ H Q ⟨F, ρ, m, S, hE, hS, h⟩ => tA_bind hE hS h fun ds S1 vs H1 m1 _ k1 e1 s1 r1 h1 => by
    split at h1
    · rename_i hz
      exact ⟨by rw [← r1.length]; exact sz hz, fun p hp => RunE.madeC h1 s1 hp (CellOk.newL s1 hp r1)⟩
    · exact h1.elim

/-! ### items, slices -/
def ixS (n : Nat) (i : Int) : Option Nat := ixN n i
def ixD (S : Store) (x y : D) : Option D := match y with
  | .int i => match x with
    | .str z => if z.length ≤ 16777216 then (atI z.cps.toList i).map fun c => .str ⟨#[c]⟩ else none
    | .tup xs => atI xs i
    | x => match seqL S x with
      | some xs => atI xs i
      | none => none
  | _ => none
theorem VDs.at {H : Hp} {m L : List Addr} {xs : List D} {ys : List V} {i : Int} {d : D} (r : VDs G H m L xs ys) (h : atI xs i = some d) : ∃ v, atI ys i = some v ∧ VD G H m L d v := by
  unfold atI at h ⊢
  rw [← r.length]
  cases q : ixN xs.length i with
  | none => rw [q] at h; cases h
  | some j =>
    rw [q] at h
    exact r.get h
theorem ops_ix : OpS G E (rIx G.K) ixD := by
  intro F S H m dx dy x y Q s rx ry h
  unfold ixD at h
  split at h
  · cases ry
    split at h
    · cases rx
      split at h
      · rename_i hz
        cases q : atI _ _ with
        | none => rw [q] at h; exact h.elim
        | some c =>
          rw [q] at h
          exact .inr (.inr ⟨_, _, c, rfl, rfl, sz hz, q, RunE.here (show RunE G E F (.ok (.str ⟨#[c]⟩, S)) H m (lv m S) Q from h) s (.str _)⟩)
      · exact h.elim
    · rename_i xs
      cases q : atI xs _ with
      | none => rw [q] at h; exact h.elim
      | some d =>
        rw [q] at h
        cases rx with
        | tup hy r =>
          obtain ⟨v, h1, h2⟩ := r.at q
          exact .inr (.inl ⟨_, _, _, v, rfl, rfl, hy.sq, h1, RunE.here (show RunE G E F (.ok (d, S)) H m (lv m S) Q from h) s h2⟩)
    · split at h
      · rename_i xs e
        cases q : atI xs _ with
        | none => rw [q] at h; exact h.elim
        | some d =>
          rw [q] at h
          obtain ⟨p, ys, rfl, h1, r⟩ := seqL_ok s rx e
          obtain ⟨v, h2, h3⟩ := r.at q
          exact .inl ⟨_, _, _, v, rfl, rfl, h1, h2, RunE.here (show RunE G E F (.ok (d, S)) H m (lv m S) Q from h) s h3⟩
      · exact h.elim
  · exact h.elim
theorem x_ix (W : Wf X G) (ha : PE X a (tX G E fa)) (hb : PE X b (tX G E fb)) (hs : PlainIx b := by exact fun _ _ => rfl) : PE X (.Subscript a b pos) (tX G E (eBin ixD fa fb)) := by
  have h := pe_ix (X := X) (pos := pos) ix_seq ha hb hs
  rw [W.K] at h
  exact PE.weak h fun _ _ _ h => tOp_of ops_ix h

/-- the parts of a slice -/
abbrev EvP := Slots → Store → Res (Option Int × Store)
def pNone : EvP := fun _ S => .ok (none, S)
def pSome (f : EvE) : EvP := fun ρ S => (f ρ S).bind fun p => match p.1 with
  | .int i => .ok (some i, p.2)
  | _ => .bad
def RunP (G : Ga) (E : XK) (F : List Addr) (r : Res (Option Int × Store)) (H : Hp) (m L : List Addr) (Q : Option Int → Hp → Prop) : Prop := match r with
  | .ok (o, S') => ∀ H' m', Kp H m L H' m' (lv m' S') → SR G F H' m' S' → Q o H'
  | .exc x S' => ∀ cls dd H' m', Kp H m L H' m' (lv m' S') → SR G F H' m' S' → XD G H' m' (lw F m' S') x cls dd → E cls dd H'
  | .bad => False
def tP (G : Ga) (E : XK) (f : EvP) : TO := fun σ H Q => ∃ F ρ m S, EnvR G H m (lw F m S) ρ σ ∧ SR G F H m S ∧ RunP G E F (f ρ S) H m (lv m S) Q
theorem PO.weak {e : Option Expr} {t t' : TO} (h : PO X e t) (w : ∀ σ H Q, t' σ H Q → t σ H Q) : PO X e t' := ⟨fun pins s σ H Q I q => h.run pins s σ H Q I (w σ H Q q)⟩
theorem p_none : PO X none (tP G E pNone) := PO.weak po_none fun σ H Q ⟨F, ρ, m, S, hE, hS, h⟩ => h H m .refl hS
theorem p_some (ha : PE X a (tX G E fa)) : PO X (some a) (tP G E (pSome fa)) := PO.weak (po_some ha) fun σ H Q ⟨F, ρ, m, S, hE, hS, h⟩ => by
  refine ⟨F, ρ, m, S, hE, hS, ?_⟩
  unfold pSome at h
  cases q : fa ρ S with
  | bad => rw [q] at h; exact h.elim
  | exc x S' => rw [q] at h; exact h
  | ok p =>
    obtain ⟨d, S1⟩ := p
    rw [q] at h
    intro v H1 m1 k s r
    cases r with
    | int i => exact ⟨i, rfl, h H1 m1 k s⟩
    | _ => exact h.elim
theorem tP_bind {f : EvP} {g : Option Int × Store → Res (D × Store)} {Q' : Option Int → Hp → Prop} {F : List Addr} {H : Hp} {m : List Addr} {S : Store} {ρ : Slots} {σ : L2.St} {Q : VK} (hE : EnvR G H m (lw F m S) ρ σ) (hS : SR G F H m S) (h : RunE G E F ((f ρ S).bind g) H m (lv m S) Q)
    (hQ : ∀ b S1 H1 m1, f ρ S = .ok (b, S1) → Kp H m (lv m S) H1 m1 (lv m1 S1) → EnvR G H1 m1 (lw F m1 S1) ρ σ → SR G F H1 m1 S1 → RunE G E F (g (b, S1)) H1 m1 (lv m1 S1) Q → Q' b H1) : tP G E f σ H Q' := by
  refine ⟨F, ρ, m, S, hE, hS, ?_⟩
  cases q : f ρ S with
  | ok a =>
    obtain ⟨d, S1⟩ := a
    rw [q] at h
    exact fun H1 m1 k s => hQ d S1 H1 m1 q k (hE.mono k) s (RunE.mono k h)
  | exc x S' => rw [q] at h; exact h
  | bad => rw [q] at h; exact h
def cutD {α : Type} (xs : List α) (lo hi : Option Int) : List α := (xs.drop (HT.sIx xs.length 0 lo)).take (HT.sIx xs.length xs.length hi - HT.sIx xs.length 0 lo)
def slD (S : Store) (x : D) (lo hi : Option Int) : Option D := match x with
  | .str z => if z.length ≤ 16777216 then some (.str (cutS z lo hi)) else none
  | .tup xs => some (.tup (cutD xs lo hi))
  | x => (seqL S x).map fun xs => .lst (cutD xs lo hi)
def eSl (fa : EvE) (fl fh : EvP) : EvE := fun ρ S => (fa ρ S).bind fun p => (fl ρ p.2).bind fun l => (fh ρ l.2).bind fun u => ofO u.2 (slD u.2 p.1 l.1 u.1)
theorem VDs.cut {H : Hp} {m L : List Addr} {xs : List D} {ys : List V} (r : VDs G H m L xs ys) (lo hi : Option Int) : VDs G H m L (cutD xs lo hi) (cutV ys lo hi) := by
  unfold cutD cutV
  rw [r.length]
  exact (r.drop _).take _
theorem whole_cut {xs : List D} {lo hi : Option Int} (h : HT.sIx xs.length 0 lo = 0 ∧ HT.sIx xs.length xs.length hi = xs.length) : cutD xs lo hi = xs := by
  unfold cutD
  rw [h.1, h.2]
  simp
theorem x_sl (W : Wf X G) {lo hi : Option Expr} {fl fh : EvP} {p2 : Pos} (ha : PE X a (tX G E fa)) (hl : PO X lo (tP G E fl)) (hh : PO X hi (tP G E fh)) : PE X (.Subscript a (.Slice lo hi none p2) pos) (tX G E (eSl fa fl fh)) := by
  have h := pe_slice (X := X) (pos := pos) (p2 := p2) (SlR.or sl_str (SlR.or sl_tupP sl_list)) ha hl hh
  rw [W.K] at h
  refine PE.weak h fun σ H Q ⟨F, ρ, m, S, hE, hS, h⟩ => tX_bind hE hS h fun d S1 v H1 m1 _ k1 e1 s1 r1 h1 => tP_bind e1 s1 h1 fun l S2 H2 m2 _ k2 e2 s2 h2 => tP_bind e2 s2 h2 fun u S3 H3 m3 _ k3 e3 s3 h3 => ?_
  have r3 := (r1.mono k2).mono k3
  revert h3
  simp only
  unfold slD
  split
  · split
    · rename_i hz
      intro h3
      cases r3
      exact .inl ⟨_, rfl, sz hz, RunE.here h3 s3 (.str _)⟩
    · intro h3; exact h3.elim
  · intro h3
    rename_i xs
    cases r3 with
    | tup hy ry =>
      refine .inr (.inl ⟨_, _, rfl, hy.sq, fun hw => ?_, fun hw p o hp ho => RunE.made h3 s3 hp (VD.newT s3 hp ho (ry.cut _ _))⟩)
      rw [← ry.length] at hw
      rw [whole_cut hw] at h3
      exact RunE.here h3 s3 (.tup hy ry)
  · intro h3
    cases q : seqL S3 d with
    | none => rw [q] at h3; exact h3.elim
    | some xs =>
      rw [q] at h3
      obtain ⟨p, ys, rfl, h4, r⟩ := seqL_ok s3 r3 q
      exact .inr (.inr ⟨_, _, rfl, h4, fun p hp => RunE.made (show RunE G E F (.ok (.lst (cutD xs l u), S3)) H3 m3 (lv m3 S3) Q from h3) s3 hp (VD.newL s3 hp (r.cut _ _))⟩)
end
end Pd
end
section
/-! Pd, part E: statements. -/
namespace Pd
open PySem PySem.Spec PyProof.Rows L2

inductive Out where
  | nx (ρ : Slots) (S : Store) | rt (d : D) (S : Store) | bk (ρ : Slots) (S : Store) | ct (ρ : Slots) (S : Store) | exc (x : Exc) (S : Store) | bad
abbrev EvS := Slots → Store → Out
def RunS (G : Ga) (E : XK) (F : List Addr) (o : Out) (H : Hp) (m L : List Addr) (Dn : Ends) : Prop := match o with
  | .nx ρ S' => ∀ σ H' m', Kp H m L H' m' (lv m' S') → SR G F H' m' S' → EnvR G H' m' (lw F m' S') ρ σ → Dn.nx σ H'
  | .bk ρ S' => ∀ σ H' m', Kp H m L H' m' (lv m' S') → SR G F H' m' S' → EnvR G H' m' (lw F m' S') ρ σ → Dn.bk σ H'
  | .ct ρ S' => ∀ σ H' m', Kp H m L H' m' (lv m' S') → SR G F H' m' S' → EnvR G H' m' (lw F m' S') ρ σ → Dn.ct σ H'
  | .rt d S' => ∀ v H' m', Kp H m L H' m' (lv m' S') → SR G F H' m' S' → VD G H' m' (lw F m' S') d v → Dn.rt v H'
  | .exc x S' => ∀ cls dd H' m', Kp H m L H' m' (lv m' S') → SR G F H' m' S' → XD G H' m' (lw F m' S') x cls dd → E cls dd H'
  | .bad => False
def tS (G : Ga) (E : XK) (f : EvS) : TS := fun Dn σ H => ∃ F ρ m S, EnvR G H m (lw F m S) ρ σ ∧ SR G F H m S ∧ RunS G E F (f ρ S) H m (lv m S) Dn
theorem RunS.mono {G : Ga} {E : XK} {F : List Addr} {o : Out} {H H1 : Hp} {m L m1 L1 : List Addr} {Dn : Ends} (k : Kp H m L H1 m1 L1) (h : RunS G E F o H m L Dn) : RunS G E F o H1 m1 L1 Dn := by
  cases o with
  | nx ρ S' => exact fun σ H' m' k' s e => h σ H' m' (k.trans k') s e
  | bk ρ S' => exact fun σ H' m' k' s e => h σ H' m' (k.trans k') s e
  | ct ρ S' => exact fun σ H' m' k' s e => h σ H' m' (k.trans k') s e
  | rt d S' => exact fun v H' m' k' s e => h v H' m' (k.trans k') s e
  | exc x S' => exact fun c d H' m' k' s e => h c d H' m' (k.trans k') s e
  | bad => exact h
def Res.out {α : Type} (r : Res α) (f : α → Out) : Out := match r with
  | .ok a => f a
  | .exc x S => .exc x S
  | .bad => .bad

section
variable {G : Ga} {E : XK} {F : List Addr} {H : Hp} {m : List Addr} {S : Store} {ρ : Slots} {σ : L2.St} {Dn : Ends}
theorem tX_out {f : EvE} {g : D × Store → Out} {Q' : VK} (hE : EnvR G H m (lw F m S) ρ σ) (hS : SR G F H m S) (h : RunS G E F ((f ρ S).out g) H m (lv m S) Dn)
    (hQ : ∀ d S1 v H1 m1, Kp H m (lv m S) H1 m1 (lv m1 S1) → EnvR G H1 m1 (lw F m1 S1) ρ σ → SR G F H1 m1 S1 → VD G H1 m1 (lw F m1 S1) d v → RunS G E F (g (d, S1)) H1 m1 (lv m1 S1) Dn → Q' v H1) : tX G E f σ H Q' := by
  refine ⟨F, ρ, m, S, hE, hS, ?_⟩
  cases q : f ρ S with
  | ok a =>
    obtain ⟨d, S1⟩ := a
    rw [q] at h
    exact fun v H1 m1 k s r => hQ d S1 v H1 m1 k (hE.mono k) s r (RunS.mono k h)
  | exc x S' => rw [q] at h; exact h
  | bad => rw [q] at h; exact h
theorem tA_out {f : EvA} {g : List D × Store → Out} {Q' : List V → Hp → Prop} (hE : EnvR G H m (lw F m S) ρ σ) (hS : SR G F H m S) (h : RunS G E F ((f ρ S).out g) H m (lv m S) Dn)
    (hQ : ∀ d S1 v H1 m1, Kp H m (lv m S) H1 m1 (lv m1 S1) → EnvR G H1 m1 (lw F m1 S1) ρ σ → SR G F H1 m1 S1 → VDs G H1 m1 (lw F m1 S1) d v → RunS G E F (g (d, S1)) H1 m1 (lv m1 S1) Dn → Q' v H1) : tA G E f σ H Q' := by
  refine ⟨F, ρ, m, S, hE, hS, ?_⟩
  cases q : f ρ S with
  | ok a =>
    obtain ⟨d, S1⟩ := a
    rw [q] at h
    exact fun v H1 m1 k s r => hQ d S1 v H1 m1 k (hE.mono k) s r (RunS.mono k h)
  | exc x S' => rw [q] at h; exact h
  | bad => rw [q] at h; exact h
theorem tT_out {f : EvT} {g : Bool × Store → Out} {Q' : Bool → Hp → Prop} (hE : EnvR G H m (lw F m S) ρ σ) (hS : SR G F H m S) (h : RunS G E F ((f ρ S).out g) H m (lv m S) Dn)
    (hQ : ∀ d S1 H1 m1, Kp H m (lv m S) H1 m1 (lv m1 S1) → EnvR G H1 m1 (lw F m1 S1) ρ σ → SR G F H1 m1 S1 → RunS G E F (g (d, S1)) H1 m1 (lv m1 S1) Dn → Q' d H1) : tT G E f σ H Q' := by
  refine ⟨F, ρ, m, S, hE, hS, ?_⟩
  cases q : f ρ S with
  | ok a =>
    obtain ⟨d, S1⟩ := a
    rw [q] at h
    exact fun H1 m1 k s => hQ d S1 H1 m1 k (hE.mono k) s (RunS.mono k h)
  | exc x S' => rw [q] at h; exact h
  | bad => rw [q] at h; exact h
theorem RunS.nxt (h : RunS G E F (.nx ρ S) H m (lv m S) Dn) (s : SR G F H m S) (e : EnvR G H m (lw F m S) ρ σ) : Dn.nx σ H := h σ H m .refl s e
end

section
variable {X : Cx} {G : Ga} {E : XK} {st : Stmt} {rest : List Stmt} {e a b : Expr} {f fa fb : EvE} {pos : Pos} {g h1 h2 : EvS}
def sNil : EvS := fun ρ S => .nx ρ S
def sSeq (g h : EvS) : EvS := fun ρ S => match g ρ S with
  | .nx ρ1 S1 => h ρ1 S1
  | o => o
theorem s_nil : PSs X [] (tS G E sNil) := PSs.weak pss_nil fun Dn σ H ⟨F, ρ, m, S, hE, hS, h⟩ => RunS.nxt h hS hE
theorem s_cons (ha : PS X st (tS G E g)) (hb : PSs X rest (tS G E h1)) : PSs X (st :: rest) (tS G E (sSeq g h1)) :=
  PSs.weak (pss_cons ha hb) fun Dn σ H ⟨F, ρ, m, S, hE, hS, h⟩ => by
    refine ⟨F, ρ, m, S, hE, hS, ?_⟩
    unfold sSeq at h
    cases q : g ρ S with
    | nx ρ1 S1 =>
      rw [q] at h
      exact fun σ' H' m' k s e => ⟨F, ρ1, m', S1, e, s, RunS.mono k h⟩
    | bk ρ1 S1 => rw [q] at h; exact h
    | ct ρ1 S1 => rw [q] at h; exact h
    | rt d S1 => rw [q] at h; exact h
    | exc x S1 => rw [q] at h; exact h
    | bad => rw [q] at h; exact h
theorem s_one (ha : PS X st (tS G E g)) : PSs X [st] (tS G E g) := pss_one ha
/-- before the rest: what does not show in the code (a cell that nobody will change becomes a list) -/
def sGhost (z : Slots → Store → Option (Slots × Store)) (g : EvS) : EvS := fun ρ S => match z ρ S with
  | some p => g p.1 p.2
  | none => .bad
def Ghost (G : Ga) (z : Slots → Store → Option (Slots × Store)) : Prop := ∀ ρ S ρ' S', z ρ S = some (ρ', S') → ∀ F H m σ, EnvR G H m (lw F m S) ρ σ → SR G F H m S → Kp H m (lv m S) H m (lv m S') ∧ EnvR G H m (lw F m S') ρ' σ ∧ SR G F H m S'
theorem s_ghost {z : Slots → Store → Option (Slots × Store)} (hz : Ghost G z) (hb : PSs X rest (tS G E g)) : PSs X rest (tS G E (sGhost z g)) :=
  PSs.weak hb fun Dn σ H ⟨F, ρ, m, S, hE, hS, h⟩ => by
    unfold sGhost at h
    cases q : z ρ S with
    | none => rw [q] at h; exact h.elim
    | some p =>
      obtain ⟨ρ', S'⟩ := p
      rw [q] at h
      obtain ⟨k, e, s⟩ := hz _ _ _ _ q F H m σ hE hS
      exact ⟨F, ρ', m, S', e, s, RunS.mono k h⟩
def frz (i : Nat) : Slots → Store → Option (Slots × Store) := fun ρ S => match ρ[i]? with
  | some (some (.ref n)) => match S[n]? with
    | some (.lst xs) => some (ρ.set i (some (.lst xs)), S.set n .dead)
    | _ => none
  | some (some d) => some (ρ, S)
  | _ => none
theorem lv_dead {m : List Addr} {S : Store} {n : Nat} {b : Addr} (h : b ∈ lv m (S.set n .dead)) : b ∈ lv m S ∧ ∀ a, m.Nodup → m[n]? = some a → b ≠ a := by
  obtain ⟨k, c, h1, h2, h3⟩ := mem_lv.mp h
  by_cases q : n = k
  · subst q
    have : n < S.length := by
      have := (List.getElem?_eq_some_iff.mp h2).1
      simpa using this
    rw [List.getElem?_set_self this] at h2
    cases h2
    cases h3
  · rw [List.getElem?_set_ne q] at h2
    refine ⟨mem_lv.mpr ⟨k, c, h1, h2, h3⟩, fun a nd ha z => q ?_⟩
    subst z
    obtain ⟨l1, e1⟩ := List.getElem?_eq_some_iff.mp ha
    obtain ⟨l2, e2⟩ := List.getElem?_eq_some_iff.mp h1
    exact (List.getElem_inj nd).mp (e1.trans e2.symm)
theorem kp_dead {H : Hp} {m : List Addr} {S : Store} {n : Nat} : Kp H m (lv m S) H m (lv m (S.set n .dead)) := ⟨fun _ _ h _ => h, fun _ h => .inl (lv_dead h).1, fun _ _ h => h⟩
theorem sr_dead {F : List Addr} {H : Hp} {m : List Addr} {S : Store} {n : Nat} (s : SR G F H m S) : SR G F H m (S.set n .dead) where
  len := by simp [s.len]
  nd := s.nd
  trk := s.trk
  ftr := s.ftr
  cell := fun k c a h1 h2 => by
    by_cases q : n = k
    · subst q
      have : n < S.length := by
        have := (List.getElem?_eq_some_iff.mp h1).1
        simpa using this
      rw [List.getElem?_set_self this] at h1
      cases h1
      trivial
    · rw [List.getElem?_set_ne q] at h1
      exact (s.cell k c a h1 h2).mono kp_dead fun _ => rfl
theorem ghost_frz (i : Nat) : Ghost G (frz i) := by
  intro ρ S ρ' S' hz F H m σ hE hS
  unfold frz at hz
  split at hz
  · rename_i n e1
    split at hz
    · rename_i xs e2
      cases hz
      refine ⟨kp_dead, ?_, sr_dead hS⟩
      obtain ⟨v, h1, h2⟩ := hE.2 i _ e1
      cases h2 with
      | ref h2 =>
        rename_i a
        obtain ⟨ys, h3, h4⟩ := hS.list e2 h2
        have r : VD G H m (lw F m (S.set n .dead)) (.lst xs) (.ref a) := .lst h3 (fun z => (List.mem_append.mp z).elim (fun z => (hS.ftr a z).2 (List.mem_of_getElem? h2)) fun z => (lv_dead z).2 a hS.nd h2 rfl) (h4.mono kp_dead)
        have e := (hE.mono (kp_dead (n := n))).set (i := i) r
        have eq : σ.set i (some (V.ref a)) = σ := by
          obtain ⟨l, e3⟩ := List.getElem?_eq_some_iff.mp h1
          rw [← e3]
          exact List.set_getElem_self l
        rw [eq] at e
        exact e
    · cases hz
  · cases hz
    exact ⟨.refl, hE, hS⟩
  · cases hz

/-! ### small statements -/
def sSet (i : Nat) (f : EvE) : EvS := fun ρ S => (f ρ S).out fun p => .nx (ρ.set i (some p.1)) p.2
theorem s_set {i : Nat} {x : Str} {pos' : Pos} (hN : X.N.Nodup) (he : PE X e (tX G E f)) (hi : X.N[i]? = some x := by rfl) (hx : Loc X.env.scope x := by first | exact Or.inl rfl | exact Or.inr rfl) (hs : swapsWith e (some (.Name x pos')) pos.line X.env = pure false := by rfl)
    (hf : X.fn x = true ∨ X.env.scope.names.lookup x = some .local := by first | exact .inl rfl | exact .inr rfl | assumption) : PS X (.Assign [.Name x pos'] e pos) (tS G E (sSet i f)) :=
  PS.weak (ps_set hN hi hx he hs hf) fun Dn σ H ⟨F, ρ, m, S, hE, hS, h⟩ => tX_out hE hS h fun d S1 v H1 m1 k1 e1 s1 r1 h1 => RunS.nxt h1 s1 (e1.set r1)
def sExpr (f : EvE) : EvS := fun ρ S => (f ρ S).out fun p => .nx ρ p.2
theorem s_expr (he : PE X e (tX G E f)) (hs : swapsWith e none pos.line X.env = pure false := by rfl) : PS X (.Expr e pos) (tS G E (sExpr f)) :=
  PS.weak (ps_expr he hs) fun Dn σ H ⟨F, ρ, m, S, hE, hS, h⟩ => tX_out hE hS h fun d S1 v H1 m1 k1 e1 s1 r1 h1 => RunS.nxt h1 s1 e1
def sRet (f : EvE) : EvS := fun ρ S => (f ρ S).out fun p => .rt p.1 p.2
theorem s_ret (he : PE X e (tX G E f)) : PS X (.Return (some e) pos) (tS G E (sRet f)) :=
  PS.weak (ps_ret he) fun Dn σ H ⟨F, ρ, m, S, hE, hS, h⟩ => tX_out hE hS h fun d S1 v H1 m1 k1 e1 s1 r1 h1 => h1 v H1 m1 .refl s1 r1
def sRetN : EvS := fun _ S => .rt .non S
theorem s_retN : PS X (.Return none pos) (tS G E sRetN) := PS.weak ps_retN fun Dn σ H ⟨F, ρ, m, S, hE, hS, h⟩ => h .non H m .refl hS .non
theorem s_pass : PS X (.Pass pos) (tS G E sNil) := PS.weak ps_pass fun Dn σ H ⟨F, ρ, m, S, hE, hS, h⟩ => RunS.nxt h hS hE
def sBrk : EvS := fun ρ S => .bk ρ S
def sCnt : EvS := fun ρ S => .ct ρ S
theorem s_brk : PS X (.Break pos) (tS G E sBrk) := PS.weak ps_break fun Dn σ H ⟨F, ρ, m, S, hE, hS, h⟩ => h σ H m .refl hS hE
theorem s_cnt : PS X (.Continue pos) (tS G E sCnt) := PS.weak ps_continue fun Dn σ H ⟨F, ρ, m, S, hE, hS, h⟩ => h σ H m .refl hS hE
theorem s_doc {x j pos'} : PS X (.Expr (.Constant (.str x) j pos) pos') (tS G E sNil) := PS.weak ps_doc fun Dn σ H ⟨F, ρ, m, S, hE, hS, h⟩ => RunS.nxt h hS hE
/-- a statement that is never come to -/
def sBad : EvS := fun _ _ => .bad
theorem s_never : PS X st (tS G E sBad) := PS.weak ps_never fun Dn σ H ⟨F, ρ, m, S, hE, hS, h⟩ => h
def sIf (c : EvT) (g h : EvS) : EvS := fun ρ S => (c ρ S).out fun p => if p.1 = true then g ρ p.2 else h ρ p.2
theorem s_if {c : Expr} {ba bb : List Stmt} {tc : EvT} (hc : PT X c (tT G E tc)) (ha : PSs X ba (tS G E g)) (hb : PSs X bb (tS G E h1)) : PS X (.If c ba bb pos) (tS G E (sIf tc g h1)) :=
  PS.weak (ps_if hc ha hb) fun Dn σ H ⟨F, ρ, m, S, hE, hS, h⟩ => tT_out hE hS h fun d S1 H1 m1 k1 e1 s1 h1 => by
    cases d with
    | true => exact ⟨F, ρ, m1, S1, e1, s1, h1⟩
    | false => exact ⟨F, ρ, m1, S1, e1, s1, h1⟩

/-! ### targets -/
abbrev Tg := D → Slots → Option Slots
abbrev Tgs := List D → Slots → Option Slots
/-- the slots vs alone may have changed -/
def Only (vs : List Nat) (σ σ' : L2.St) : Prop := σ'.length = σ.length ∧ ∀ i : Nat, i ∉ vs → σ'[i]? = σ[i]?
def TgOk (G : Ga) (t : TG) (g : Tg) (ts : List Nat) : Prop := ∀ (ρ ρ' : Slots) (σ : L2.St) (H : Hp) (m L : List Addr) (d : D) (v : V) (Q : L2.St → Hp → Prop), EnvR G H m L ρ σ → VD G H m L d v → g d ρ = some ρ' → (∀ σ', EnvR G H m L ρ' σ' → Only ts σ σ' → Q σ' H) → t v σ H Q
def TgsOk (G : Ga) (t : TGs) (g : Tgs) (ts : List Nat) : Prop := ∀ (ρ ρ' : Slots) (σ : L2.St) (H : Hp) (m L : List Addr) (d : List D) (v : List V) (Q : L2.St → Hp → Prop), EnvR G H m L ρ σ → VDs G H m L d v → g d ρ = some ρ' → (∀ σ', EnvR G H m L ρ' σ' → Only ts σ σ' → Q σ' H) → t v σ H Q
def gN (i : Nat) : Tg := fun d ρ => some (ρ.set i (some d))
def gNl : Tgs := fun ds ρ => match ds with
  | [] => some ρ
  | _ => none
def gCn (g : Tg) (h : Tgs) : Tgs := fun ds ρ => match ds with
  | d :: r => match g d ρ with
    | some ρ1 => h r ρ1
    | none => none
  | [] => none
def gTu (n : Nat) (h : Tgs) : Tg := fun d ρ => match d with
  | .tup xs => if xs.length = n then h xs ρ else none
  | _ => none
theorem gN_ok (i : Nat) : TgOk G (gName i) (gN i) [i] := fun ρ ρ' σ H m L d v Q hE r e q => by
  cases e
  exact q _ (hE.set r) ⟨by simp, fun j hj => List.getElem?_set_ne fun z => hj (by simp [z])⟩
theorem gNl_ok : TgsOk G gNil gNl [] := fun ρ ρ' σ H m L d v Q hE r e q => by
  cases r with
  | nil => cases e; exact ⟨rfl, q _ hE ⟨rfl, fun _ _ => rfl⟩⟩
  | cons _ _ => cases e
theorem gCn_ok {t : TG} {u : TGs} {g : Tg} {h : Tgs} {ts us : List Nat} (hg : TgOk G t g ts) (hh : TgsOk G u h us) : TgsOk G (gCons t u) (gCn g h) (ts ++ us) := fun ρ ρ' σ H m L d v Q hE r e q => by
  cases r with
  | nil => cases e
  | cons r1 r2 =>
    unfold gCn at e
    rename_i d1 v1 ds vs
    cases e1 : g d1 ρ with
    | none => simp [e1] at e
    | some ρ1 =>
      simp [e1] at e
      exact ⟨_, _, rfl, hg ρ ρ1 σ H m L _ _ _ hE r1 e1 fun σ' hE' o1 => hh ρ1 ρ' σ' H m L _ _ Q hE' r2 e fun σ2 hE2 o2 => q σ2 hE2 ⟨o2.1.trans o1.1, fun i hi => (o2.2 i fun z => hi (List.mem_append_right _ z)).trans (o1.2 i fun z => hi (List.mem_append_left _ z))⟩⟩
theorem gTu_ok {n : Nat} {u : TGs} {h : Tgs} {ts : List Nat} (hh : TgsOk G u h ts) : TgOk G (gTup G.K n u) (gTu n h) ts := fun ρ ρ' σ H m L d v Q hE r e q => by
  cases r with
  | tup hy r =>
    unfold gTu at e
    simp only at e
    split at e
    · rename_i hn
      exact ⟨_, _, rfl, hy.sq, by rw [← r.length]; exact hn, hh ρ ρ' σ H m L _ _ Q hE r e q⟩
    · cases e
  | _ => cases e
theorem p_name {i : Nat} {x : Str} (hN : X.N.Nodup) (hi : X.N[i]? = some x := by rfl) (hx : Loc X.env.scope x := by first | exact Or.inl rfl | exact Or.inr rfl) (hf : X.fn x = true ∨ X.env.scope.names.lookup x = some .local := by first | exact .inl rfl | exact .inr rfl | assumption) : PG X (.Name x pos) (gName i) := pg_name hN hi hx hf
theorem p_tup (W : Wf X G) (hc : X.calm = true) {es : List Expr} {k : Nat} {t : TGs} {n : Nat} (h : PGs X es t) (hn : (assignEach es X.env).length = n := by rfl) (hst : (assignEach es X.env).findIdx? (·.1) = none := by rfl) : PG X (.Tuple es k pos) (gTup G.K n t) := by
  have q := pg_tup (X := X) (k := k) (pos := pos) hc h hn hst
  rw [W.K] at q
  exact q
/-- a, b = e -/
def sAsg (f : EvE) (g : Tg) : EvS := fun ρ S => (f ρ S).out fun p => match g p.1 ρ with
  | some ρ' => .nx ρ' p.2
  | none => .bad
theorem s_asg {tg : Expr} {t : TG} {g : Tg} (he : PE X e (tX G E f)) (hg : PG X tg t) {ts : List Nat} (ok : TgOk G t g ts) (hs : swapsWithSole [tg] e pos.line X.env = pure false := by rfl) (hw : swappedStores [tg] e X.env = pure none := by rfl)
    (h1 : (assignEach [tg] X.env).map (·.2) = [assign tg X.env] := by rfl) : PS X (.Assign [tg] e pos) (tS G E (sAsg f g)) :=
  PS.weak (ps_asg he hg hs hw h1) fun Dn σ H ⟨F, ρ, m, S, hE, hS, h⟩ => tX_out hE hS h fun d S1 v H1 m1 k1 e1 s1 r1 h1 => by
    cases q : g d ρ with
    | none => simp only [q] at h1; exact h1.elim
    | some ρ' =>
      simp only [q] at h1
      exact ok ρ ρ' σ H1 m1 _ d v _ e1 r1 q fun σ' e' _ => RunS.nxt h1 s1 e'
/-- a, b = e1, e2 with two local names -/
def sPar (i j : Nat) (f : EvA) : EvS := fun ρ S => (f ρ S).out fun p => match p.1 with
  | [d1, d2] => .nx ((ρ.set i (some d1)).set j (some d2)) p.2
  | _ => .bad
theorem s_par (W : Wf X G) (hc : X.calm = true) {i j : Nat} {x y : Str} {px py pt : Pos} {kt k2 pt2} {ga : EvA} (hN : X.N.Nodup) (ha : PA X [a, b] (tA G E ga))
    (hi : X.N[i]? = some x := by rfl) (hj : X.N[j]? = some y := by rfl) (hij : i ≠ j := by decide) (hx : X.env.scope.names.lookup x = some .local := by rfl) (hy : X.env.scope.names.lookup y = some .local := by rfl)
    (hw : swappedStores [.Tuple [.Name x px, .Name y py] kt pt] (.Tuple [a, b] k2 pt2) X.env = pure (some [x, y]) := by rfl)
    (hs : swapsWithSole [.Tuple [.Name x px, .Name y py] kt pt] (.Tuple [a, b] k2 pt2) pos.line X.env = pure false := by rfl) :
    PS X (.Assign [.Tuple [.Name x px, .Name y py] kt pt] (.Tuple [a, b] k2 pt2) pos) (tS G E (sPar i j ga)) :=
  PS.weak (ps_par hc hN hi hj hij hx hy ha hw hs) fun Dn σ H ⟨F, ρ, m, S, hE, hS, h⟩ => tA_out hE hS h fun ds S1 vs H1 m1 k1 e1 s1 r1 h1 => by
    cases r1 with
    | nil => exact h1.elim
    | cons r1 r2 =>
      cases r2 with
      | nil => exact h1.elim
      | cons r2 r3 =>
        cases r3 with
        | nil => exact ⟨_, _, rfl, RunS.nxt h1 s1 ((e1.set r1).set r2)⟩
        | cons _ _ => exact h1.elim

/-! ### o[i] = e -/
def setC (S : Store) (o i d : D) : Option Store := match o, i with
  | .ref n, .int k => match S[n]? with
    | some (.lst xs) => (ixN xs.length k).map fun j => S.set n (.lst (xs.set j d))
    | _ => none
  | _, _ => none
def sSub (f fo fi : EvE) : EvS := fun ρ S => (f ρ S).out fun p => (fo ρ p.2).out fun o => (fi ρ o.2).out fun i => match setC i.2 o.1 i.1 p.1 with
  | some S' => .nx ρ S'
  | none => .bad
theorem setC_ok {F : List Addr} {S S' : Store} {H : Hp} {m : List Addr} {o i d : D} {vo vi v : V} (s : SR G F H m S) (ro : VD G H m (lw F m S) o vo) (ri : VD G H m (lw F m S) i vi) (r : VD G H m (lw F m S) d v) (h : setC S o i d = some S') {R : Hp → Prop}
    (hR : ∀ H', Kp H m (lv m S) H' m (lv m S') → SR G F H' m S' → R H') : rSetL vo vi v H R := by
  unfold setC at h
  split at h
  · rename_i n k
    split at h
    · rename_i xs e2
      cases ro with
      | ref ho =>
        rename_i a
        cases ri
        obtain ⟨j, hj, rfl⟩ := Option.map_eq_some_iff.mp h
        obtain ⟨ys, h3, h4⟩ := s.list e2 ho
        have kk : Kp H m (lv m S) (upd H a (.lst (ys.set j v))) m (lv m (S.set n (.lst (xs.set j d)))) := Kp.store s e2 ho rfl rfl
        refine ⟨a, ys, k, j, rfl, rfl, h3, by rw [← h4.length]; exact hj, hR _ kk (SR.store s e2 ho rfl rfl ⟨_, upd_same, (h4.mono kk).set (r.mono kk) j⟩)⟩
    · cases h
  · cases h
theorem s_sub {o i : Expr} {pos' : Pos} {fo fi : EvE} (he : PE X e (tX G E f)) (ho : PE X o (tX G E fo)) (hi : PE X i (tX G E fi))
    (ha : ∀ v, assign (.Subscript o i pos') X.env v = (do
      let ov ← holding [v] (eval o X.env)
      let iv ← holding [v, ov] (eval i X.env)
      standAt pos'
      holding [v, ov, iv] (setItem ov iv v)
      release [v, ov, iv] []) := by intro _; rfl)
    (hs : swapsWithSole [.Subscript o i pos'] e pos.line X.env = pure false := by rfl) (hw : swappedStores [.Subscript o i pos'] e X.env = pure none := by rfl)
    (h1 : (assignEach [.Subscript o i pos'] X.env).map (·.2) = [assign (.Subscript o i pos') X.env] := by rfl) : PS X (.Assign [.Subscript o i pos'] e pos) (tS G E (sSub f fo fi)) :=
  PS.weak (ps_asg he (pg_sub ho hi set_list ha) hs hw h1) fun Dn σ H ⟨F, ρ, m, S, hE, hS, h⟩ => tX_out hE hS h fun d S1 v H1 m1 k1 e1 s1 r1 h1 => tX_out e1 s1 h1 fun d2 S2 v2 H2 m2 k2 e2 s2 r2 h2 => tX_out e2 s2 h2 fun d3 S3 v3 H3 m3 k3 e3 s3 r3 h3 => by
    cases q : setC S3 d2 d3 d with
    | none => simp only [q] at h3; exact h3.elim
    | some S' =>
      simp only [q] at h3
      exact setC_ok s3 (r2.mono k3) r3 ((r1.mono k2).mono k3) q fun H' kk ss => h3 σ H' m3 kk ss (e3.mono kk)

/-! ### loops -/
/-- the walk J goes over the data xs, whatever becomes of the cells -/
def Wk (G : Ga) (J : It) (F : List Addr) (H : Hp) (m : List Addr) (S : Store) (xs : List D) : Prop := ∀ (F' : List Addr) (H' : Hp) (m' : List Addr) (S' : Store), (∀ d v, VD G H m (lw F m S) d v → VD G H' m' (lw F' m' S') d v) → SR G F' H' m' S' →
  (∀ (i : Nat) d, xs[i]? = some d → J.go i H' ∧ ∀ x H'', J.yld i H' x H'' → Kp H' m' (lv m' S') H'' m' (lv m' S') ∧ SR G F' H'' m' S' ∧ VD G H'' m' (lw F' m' S') d x) ∧ ∀ i : Nat, xs.length ≤ i → J.stop i H'
abbrev EvI := Slots → Store → Res (List D × Store)
def RunI (G : Ga) (E : XK) (F : List Addr) (r : Res (List D × Store)) (H : Hp) (m L : List Addr) (R : It → Hp → Prop) : Prop := match r with
  | .ok (xs, S') => ∀ J H' m', Kp H m L H' m' (lv m' S') → SR G F H' m' S' → Wk G J F H' m' S' xs → R J H'
  | .exc x S' => ∀ cls dd H' m', Kp H m L H' m' (lv m' S') → SR G F H' m' S' → XD G H' m' (lw F m' S') x cls dd → E cls dd H'
  | .bad => False
def tI (G : Ga) (E : XK) (f : EvI) : TI := fun σ H R => ∃ F ρ m S, EnvR G H m (lw F m S) ρ σ ∧ SR G F H m S ∧ RunI G E F (f ρ S) H m (lv m S) R
theorem PI.weak {tg it : Expr} {t t' : TI} (h : PI X tg it t) (w : ∀ σ H R, t' σ H R → t σ H R) : PI X tg it t' := ⟨fun pins s σ H R I q => h.run pins s σ H R I (w σ H R q)⟩
def loopL (g : Tg) (body : EvS) : List D → Slots → Store → Out
  | [], ρ, S => .nx ρ S
  | x :: r, ρ, S => match g x ρ with
    | none => .bad
    | some ρ0 => match body ρ0 S with
      | .nx ρ1 S1 => loopL g body r ρ1 S1
      | .ct ρ1 S1 => loopL g body r ρ1 S1
      | .bk ρ1 S1 => .nx ρ1 S1
      | o => o
def sFor (fi : EvI) (g : Tg) (body : EvS) : EvS := fun ρ S => (fi ρ S).out fun p => loopL g body p.1 ρ p.2
theorem tI_out {F : List Addr} {H : Hp} {m : List Addr} {S : Store} {ρ : Slots} {σ : L2.St} {Dn : Ends} {f : EvI} {g : List D × Store → Out} {R' : It → Hp → Prop} (hE : EnvR G H m (lw F m S) ρ σ) (hS : SR G F H m S) (h : RunS G E F ((f ρ S).out g) H m (lv m S) Dn)
    (hQ : ∀ xs S1 J H1 m1, Kp H m (lv m S) H1 m1 (lv m1 S1) → EnvR G H1 m1 (lw F m1 S1) ρ σ → SR G F H1 m1 S1 → Wk G J F H1 m1 S1 xs → RunS G E F (g (xs, S1)) H1 m1 (lv m1 S1) Dn → R' J H1) : tI G E f σ H R' := by
  refine ⟨F, ρ, m, S, hE, hS, ?_⟩
  cases q : f ρ S with
  | ok a =>
    obtain ⟨d, S1⟩ := a
    rw [q] at h
    exact fun J H1 m1 k s r => hQ d S1 J H1 m1 k (hE.mono k) s r (RunS.mono k h)
  | exc x S' => rw [q] at h; exact h
  | bad => rw [q] at h; exact h
theorem drop_of {α : Type} {xs : List α} {i : Nat} {x : α} (h : xs[i]? = some x) : xs.drop i = x :: xs.drop (i + 1) := by
  obtain ⟨l, e⟩ := List.getElem?_eq_some_iff.mp h
  rw [List.drop_eq_getElem_cons l, e]
theorem s_for (W : Wf X G) (hc : X.calm = true) {tg it : Expr} {body : List Stmt} {fi : EvI} {t : TG} {gt : Tg} {gb : EvS} (hp : PassesOwn (model X.prog X.w) X.A X.env X.xe) (hi : PI X tg it (tI G E fi)) (hg : PG X tg t) {ts : List Nat} (ok : TgOk G t gt ts) (hb : PSs X body (tS G E gb))
    (hs : ∀ x, foldedSetIterable it X.env x = pure x := by intro _; rfl) : PS X (.For tg it body [] pos) (tS G E (sFor fi gt gb)) :=
  PS.weak (ps_for hp hc hi hg hb hs) fun Dn σ H ⟨F, ρ, m, S, hE, hS, h⟩ => tI_out hE hS h fun xs S1 J H1 m1 k1 e1 s1 w1 h1 => by
    refine ⟨fun i mm σ2 H2 => mm = xs.length - i ∧ i ≤ xs.length ∧ ∃ ρ2 m2 S2, EnvR G H2 m2 (lw F m2 S2) ρ2 σ2 ∧ SR G F H2 m2 S2 ∧ Kp H1 m1 (lv m1 S1) H2 m2 (lv m2 S2) ∧ RunS G E F (loopL gt gb (xs.drop i) ρ2 S2) H2 m2 (lv m2 S2) Dn,
      ⟨_, rfl, Nat.zero_le _, ρ, m1, S1, e1, s1, .refl, by rw [List.drop_zero]; exact h1⟩, ?_⟩
    rintro i mm σ2 H2 ⟨rfl, hi2, ρ2, m2, S2, e2, s2, k2, h2⟩
    obtain ⟨w2, w3⟩ := w1 F H2 m2 S2 (fun _ _ r => r.mono k2) s2
    cases q : xs[i]? with
    | none =>
      have hle := List.getElem?_eq_none_iff.mp q
      rw [List.drop_of_length_le hle] at h2
      exact .inl ⟨w3 i hle, RunS.nxt h2 s2 e2⟩
    | some d =>
      obtain ⟨w4, w5⟩ := w2 i d q
      have hlt : i < xs.length := (List.getElem?_eq_some_iff.mp q).1
      rw [drop_of q] at h2
      refine .inr ⟨w4, fun σ' H' => ∃ ρ2 m2 S2, EnvR G H' m2 (lw F m2 S2) ρ2 σ' ∧ SR G F H' m2 S2 ∧ Kp H1 m1 (lv m1 S1) H' m2 (lv m2 S2) ∧ RunS G E F (loopL gt gb (xs.drop (i + 1)) ρ2 S2) H' m2 (lv m2 S2) Dn,
        fun σ' H' n => ⟨xs.length - (i + 1), by omega, rfl, hlt, n⟩, fun x H3 y => ?_⟩
      obtain ⟨k3, s3, r3⟩ := w5 x H3 y
      have e3 := e2.mono k3
      have h3 := RunS.mono k3 h2
      unfold loopL at h3
      cases q0 : gt d ρ2 with
      | none => simp only [q0] at h3; exact h3.elim
      | some ρ0 =>
        simp only [q0] at h3
        refine ok ρ2 ρ0 σ2 H3 m2 _ d x _ e3 r3 q0 fun σ4 e4 _ => ⟨F, ρ0, m2, S2, e4, s3, ?_⟩
        cases q1 : gb ρ0 S2 with
        | nx ρ5 S5 => simp only [q1] at h3; exact fun σ5 H5 m5 k5 s5 e5 => ⟨ρ5, m5, S5, e5, s5, (k2.trans k3).trans k5, RunS.mono k5 h3⟩
        | ct ρ5 S5 => simp only [q1] at h3; exact fun σ5 H5 m5 k5 s5 e5 => ⟨ρ5, m5, S5, e5, s5, (k2.trans k3).trans k5, RunS.mono k5 h3⟩
        | bk ρ5 S5 => simp only [q1] at h3; exact h3
        | rt d5 S5 => simp only [q1] at h3; exact h3
        | exc x5 S5 => simp only [q1] at h3; exact h3
        | bad => simp only [q1] at h3; exact h3

/-! ### what is walked -/
def iSeq (f : EvE) : EvI := fun ρ S => (f ρ S).bind fun p => match p.1 with
  | .lst xs => .ok (xs, p.2)
  | .scr xs => .ok (xs, p.2)
  | .tup xs => .ok (xs, p.2)
  | .str z => .ok (z.cps.toList.map fun c => .str ⟨#[c]⟩, p.2)
  | _ => .bad
def rWalk (K : PySem.W.Frag) (x : V) (H1 : Hp) (R : It → Hp → Prop) : Prop := (∃ a, x = .ref a ∧ (∃ xs, SqL K H1 a xs) ∧ R (Itl K a) H1) ∨ (∃ a, x = .ref a ∧ (∃ xs, SqT K H1 a xs) ∧ R (Itt K a) H1) ∨ ∃ z, x = .str z ∧ R (Its z) H1
theorem pi_walk {tg l : Expr} {tl : TE} (hl : PE X l tl) : PI X tg l (fun σ H R => tl σ H fun x H1 => rWalk X.K x H1 R) := by
  refine ⟨fun pins s σ H R I h => ?_⟩
  refine thn (hl.run pins s σ H _ I h) fun v s1 ⟨x, H1, I1, r1, q1⟩ => ?_
  rcases q1 with ⟨a, e, ⟨xs, hq⟩, q⟩ | ⟨a, e, ⟨xs, hq⟩, q⟩ | ⟨z, e, q⟩
  · subst e
    cases r1
    obtain ⟨its, rv, p, hz⟩ := I1.list hq
    refine wpAny_pyIter_list p.isList ?_
    refine ⟨s1.heap.objs.size, [s1.heap.objs.size], _, _, H1, rfl, I1.kept (t' := s1.toks) fun b o e => Heap.get?_push_of_some _ e, turn_list a _, ⟨_, Heap.get?_push_size _ rfl, rfl, rfl⟩, fun b hb => ?_, q⟩
    obtain rfl : b = s1.heap.objs.size := by simpa using hb
    exact I1.fpOk (Nat.le_refl _) (I1.hok.fresh (Nat.le_refl _))
  · subst e
    cases r1
    obtain ⟨its, rv, p, hz⟩ := I1.tuple hq
    refine wpAny_pyIter_tuple (show s1.heap.IsTuple a its.toArray from p) ?_
    refine ⟨s1.heap.objs.size, [s1.heap.objs.size], _, _, H1, rfl, I1.kept (t' := s1.toks) fun b o e => Heap.get?_push_of_some _ e, turn_tuple a _, ⟨_, Heap.get?_push_size _ rfl, rfl, rfl⟩, fun b hb => ?_, q⟩
    obtain rfl : b = s1.heap.objs.size := by simpa using hb
    exact I1.fpOk (Nat.le_refl _) (I1.hok.fresh (Nat.le_refl _))
  · subst e
    obtain ⟨t, rfl⟩ := r1
    cases ha : z.cps.all (· < 128)
    · exact wpAny_pyIter_wide ha (pi_one (tk := s1.toks) I1 _ (turn_str _ z t "str_iterator" (.inr rfl)) ⟨_, Heap.get?_push_size _ rfl, rfl, rfl⟩ q)
    · exact wpAny_pyIter_ascii ha (pi_one (tk := s1.toks) I1 _ (turn_str _ z t "str_ascii_iterator" (.inl rfl)) ⟨_, Heap.get?_push_size _ rfl, rfl, rfl⟩ q)
theorem tI_bind {F : List Addr} {H : Hp} {m : List Addr} {S : Store} {ρ : Slots} {σ : L2.St} {f : EvE} {g : D × Store → Res (List D × Store)} {R : It → Hp → Prop} {Q' : VK} (hE : EnvR G H m (lw F m S) ρ σ) (hS : SR G F H m S) (h : RunI G E F ((f ρ S).bind g) H m (lv m S) R)
    (hQ : ∀ d S1 v H1 m1, Kp H m (lv m S) H1 m1 (lv m1 S1) → EnvR G H1 m1 (lw F m1 S1) ρ σ → SR G F H1 m1 S1 → VD G H1 m1 (lw F m1 S1) d v → RunI G E F (g (d, S1)) H1 m1 (lv m1 S1) R → Q' v H1) : tX G E f σ H Q' := by
  refine ⟨F, ρ, m, S, hE, hS, ?_⟩
  cases q : f ρ S with
  | ok a =>
    obtain ⟨d, S1⟩ := a
    rw [q] at h
    refine fun v H1 m1 k s r => hQ d S1 v H1 m1 k (hE.mono k) s r ?_
    have h' : RunI G E F (g (d, S1)) H m (lv m S) R := h
    revert h'
    cases g (d, S1) with
    | ok p => exact fun h' J H' m' k' s' w' => h' J H' m' (k.trans k') s' w'
    | exc x S' => exact fun h' c dd H' m' k' s' x' => h' c dd H' m' (k.trans k') s' x'
    | bad => exact fun h' => h'
  | exc x S' => rw [q] at h; exact h
  | bad => rw [q] at h; exact h
end
end Pd
end
section
/-! Pd, part F: walks, comprehensions. -/
namespace Pd
open PySem PySem.Spec PyProof.Rows L2

section
variable {X : Cx} {G : Ga} {E : XK} {e a b c : Expr} {f fa fb fc : EvE} {pos : Pos}
theorem RunI.here {F : List Addr} {H : Hp} {m : List Addr} {S : Store} {xs : List D} {J : It} {R : It → Hp → Prop} (h : RunI G E F (.ok (xs, S)) H m (lv m S) R) (s : SR G F H m S) (w : Wk G J F H m S xs) : R J H := h J H m .refl s w
theorem wk_lst {F : List Addr} {H : Hp} {m : List Addr} {S : Store} {xs : List D} {a : Addr} (r : VD G H m (lw F m S) (.lst xs) (.ref a)) : Wk G (Itl G.K a) F H m S xs := by
  intro F' H' m' S' k s
  have r' := k _ _ r
  cases r' with
  | lst h n rs =>
    refine ⟨fun i d hd => ?_, fun i hi => ⟨_, SqL.of h, by rw [← rs.length]; exact hi⟩⟩
    obtain ⟨v, h1, h2⟩ := rs.get hd
    refine ⟨⟨_, v, SqL.of h, h1⟩, fun x H'' y => ?_⟩
    obtain ⟨rfl, y⟩ := y
    have := y _ (SqL.of h)
    rw [h1] at this
    cases this
    exact ⟨.refl, s, h2⟩
theorem wk_scr {F : List Addr} {H : Hp} {m : List Addr} {S : Store} {xs : List D} {a : Addr} (r : VD G H m (lw F m S) (.scr xs) (.ref a)) : Wk G (Itl G.K a) F H m S xs := by
  intro F' H' m' S' k s
  have r' := k _ _ r
  cases r' with
  | scr h rs =>
    refine ⟨fun i d hd => ?_, fun i hi => ⟨_, h.sq, by rw [← rs.length]; exact hi⟩⟩
    obtain ⟨v, h1, h2⟩ := rs.get hd
    refine ⟨⟨_, v, h.sq, h1⟩, fun x H'' y => ?_⟩
    obtain ⟨rfl, y⟩ := y
    have := y _ h.sq
    rw [h1] at this
    cases this
    exact ⟨.refl, s, h2⟩
theorem wk_tup {F : List Addr} {H : Hp} {m : List Addr} {S : Store} {xs : List D} {a : Addr} (r : VD G H m (lw F m S) (.tup xs) (.ref a)) : Wk G (Itt G.K a) F H m S xs := by
  intro F' H' m' S' k s
  have r' := k _ _ r
  cases r' with
  | tup h rs =>
    refine ⟨fun i d hd => ?_, fun i hi => ⟨_, h.sq, by rw [← rs.length]; exact hi⟩⟩
    obtain ⟨v, h1, h2⟩ := rs.get hd
    refine ⟨⟨_, v, h.sq, h1⟩, fun x H'' y => ?_⟩
    obtain ⟨rfl, y⟩ := y
    have := y _ h.sq
    rw [h1] at this
    cases this
    exact ⟨.refl, s, h2⟩
theorem wk_str {F : List Addr} {H : Hp} {m : List Addr} {S : Store} {z : Str} : Wk G (Its z) F H m S (z.cps.toList.map fun c => .str ⟨#[c]⟩) := by
  intro F' H' m' S' k s
  refine ⟨fun i d hd => ?_, fun i hi => by show z.cps.size ≤ i; simpa using hi⟩
  rw [List.getElem?_map] at hd
  obtain ⟨c, h1, rfl⟩ := Option.map_eq_some_iff.mp hd
  have h2 : z.cps[i]? = some c := by simpa using h1
  refine ⟨(Array.getElem?_eq_some_iff.mp h2).1, fun x H'' y => ?_⟩
  obtain ⟨rfl, c', h3, rfl⟩ := y
  rw [h2] at h3
  cases h3
  exact ⟨.refl, s, .str _⟩
theorem i_seq (W : Wf X G) {tg l : Expr} (hl : PE X l (tX G E f)) : PI X tg l (tI G E (iSeq f)) := by
  have h := pi_walk (X := X) (tg := tg) hl
  rw [W.K] at h
  refine PI.weak h fun σ H R ⟨F, ρ, m, S, hE, hS, h⟩ => tI_bind hE hS h fun d S1 v H1 m1 k1 e1 s1 r1 h1 => ?_
  cases r1 with
  | lst h n rs => exact .inl ⟨_, rfl, ⟨_, SqL.of h⟩, RunI.here h1 s1 (wk_lst (.lst h n rs))⟩
  | scr h rs => exact .inl ⟨_, rfl, ⟨_, h.sq⟩, RunI.here h1 s1 (wk_scr (.scr h rs))⟩
  | tup h rs => exact .inr (.inl ⟨_, rfl, ⟨_, h.sq⟩, RunI.here h1 s1 (wk_tup (.tup h rs))⟩)
  | str z => exact .inr (.inr ⟨_, rfl, RunI.here h1 s1 wk_str⟩)
  | _ => exact h1.elim
/-! ranges -/
def rangeD (lo : Int) (n : Nat) : List D := (List.range n).map fun i => .int (lo + (i : Nat))
theorem wk_range {F : List Addr} {H : Hp} {m : List Addr} {S : Store} {lo : Int} {n : Nat} : Wk G (Itr lo n) F H m S (rangeD lo n) := by
  intro F' H' m' S' k s
  refine ⟨fun i d hd => ?_, fun i hi => by show n ≤ i; simpa [rangeD] using hi⟩
  unfold rangeD at hd
  rw [List.getElem?_map] at hd
  obtain ⟨j, h1, rfl⟩ := Option.map_eq_some_iff.mp hd
  obtain ⟨h2, h3⟩ := List.getElem?_eq_some_iff.mp h1
  have h4 : i < n := by simpa using h2
  have h5 : j = i := by rw [← h3]; simp
  subst h5
  refine ⟨h4, fun x H'' y => ?_⟩
  obtain ⟨rfl, rfl⟩ := y
  exact ⟨.refl, s, .int _⟩
def rOk (i : Int) : Bool := decide (-4611686018427387904 ≤ i ∧ i < 4611686018427387904)
def iRange1 (g : EvA) : EvI := fun ρ S => (g ρ S).bind fun p => match p.1 with
  | [.int j] => if rOk j = true then .ok (rangeD 0 j.toNat, p.2) else .bad
  | _ => .bad
def iRange2 (g : EvA) : EvI := fun ρ S => (g ρ S).bind fun p => match p.1 with
  | [.int i, .int j] => if (rOk i && rOk j) = true then .ok (rangeD i (j - i).toNat, p.2) else .bad
  | _ => .bad
theorem tAI_bind {F : List Addr} {H : Hp} {m : List Addr} {S : Store} {ρ : Slots} {σ : L2.St} {f : EvA} {g : List D × Store → Res (List D × Store)} {R : It → Hp → Prop} {Q' : List V → Hp → Prop} (hE : EnvR G H m (lw F m S) ρ σ) (hS : SR G F H m S) (h : RunI G E F ((f ρ S).bind g) H m (lv m S) R)
    (hQ : ∀ d S1 v H1 m1, Kp H m (lv m S) H1 m1 (lv m1 S1) → EnvR G H1 m1 (lw F m1 S1) ρ σ → SR G F H1 m1 S1 → VDs G H1 m1 (lw F m1 S1) d v → RunI G E F (g (d, S1)) H1 m1 (lv m1 S1) R → Q' v H1) : tA G E f σ H Q' := by
  refine ⟨F, ρ, m, S, hE, hS, ?_⟩
  cases q : f ρ S with
  | ok a =>
    obtain ⟨d, S1⟩ := a
    rw [q] at h
    refine fun v H1 m1 k s r => hQ d S1 v H1 m1 k (hE.mono k) s r ?_
    have h' : RunI G E F (g (d, S1)) H m (lv m S) R := h
    revert h'
    cases g (d, S1) with
    | ok p => exact fun h' J H' m' k' s' w' => h' J H' m' (k.trans k') s' w'
    | exc x S' => exact fun h' c dd H' m' k' s' x' => h' c dd H' m' (k.trans k') s' x'
    | bad => exact fun h' => h'
  | exc x S' => rw [q] at h; exact h
  | bad => rw [q] at h; exact h
theorem i_range1 {tg a : Expr} {p pos : Pos} {ga : EvA} (ha : PA X [a] (tA G E ga)) (hm : X.mg "range" = none) (hg : Gl X "range" := by rfl) (hs : starEach [a] X.env = [(false, eval a X.env)] := by rfl) : PI X tg (.Call (.Name "range" p) [a] [] pos) (tI G E (iRange1 ga)) :=
  PI.weak (pi_range1 hg hm ha hs) fun σ H R ⟨F, ρ, m, S, hE, hS, h⟩ => tAI_bind hE hS h fun ds S1 vs H1 m1 k1 e1 s1 r1 h1 => by
    revert h1
    simp only
    split
    · split
      · rename_i c
        intro h1
        cases r1 with
        | cons r1 r2 =>
          cases r1; cases r2
          have c' := of_decide_eq_true c
          exact ⟨_, rfl, by omega, by omega, RunI.here h1 s1 wk_range⟩
      · intro h1; exact h1.elim
    · intro h1; exact h1.elim
theorem i_range2 {tg a b : Expr} {p pos : Pos} {ga : EvA} (ha : PA X [a, b] (tA G E ga)) (hm : X.mg "range" = none) (hg : Gl X "range" := by rfl) (hs : starEach [a, b] X.env = [(false, eval a X.env), (false, eval b X.env)] := by rfl) (hs2 : starEach [b] X.env = [(false, eval b X.env)] := by rfl) :
    PI X tg (.Call (.Name "range" p) [a, b] [] pos) (tI G E (iRange2 ga)) :=
  PI.weak (pi_range2 hg hm ha hs hs2) fun σ H R ⟨F, ρ, m, S, hE, hS, h⟩ => tAI_bind hE hS h fun ds S1 vs H1 m1 k1 e1 s1 r1 h1 => by
    revert h1
    simp only
    split
    · split
      · rename_i c
        intro h1
        cases r1 with
        | cons r1 r2 =>
          cases r1
          cases r2 with
          | cons r2 r3 =>
            cases r2; cases r3
            have c' := Bool.and_eq_true_iff.mp c
            have c1 := of_decide_eq_true c'.1
            have c2 := of_decide_eq_true c'.2
            exact ⟨_, _, rfl, ⟨by omega, by omega, by omega, by omega⟩, RunI.here h1 s1 wk_range⟩
      · intro h1; exact h1.elim
    · intro h1; exact h1.elim

/-! ### comprehensions -/
/-- no exception may leave -/
def Res.bind0 {α β : Type} (r : Res α) (f : α → Res β) : Res β := match r with
  | .ok a => f a
  | _ => .bad
def wipeD (ρ : Slots) : List Nat → Slots
  | [] => ρ
  | v :: vs => (wipeD ρ vs).set v none
theorem EnvR.wipe {H : Hp} {m L : List Addr} {ρ : Slots} {σ : L2.St} (h : EnvR G H m L ρ σ) : ∀ vs : List Nat, EnvR G H m L (wipeD ρ vs) (wipe σ vs)
  | [] => h
  | v :: vs => by
    obtain ⟨h1, h2⟩ := EnvR.wipe h vs
    refine ⟨by simp [wipeD, L2.wipe, h1], fun i d e => ?_⟩
    unfold wipeD at e
    unfold L2.wipe
    by_cases q : v = i
    · subst q
      rcases Nat.lt_or_ge v (wipeD ρ vs).length with z | z
      · rw [List.getElem?_set_self z] at e; cases e
      · rw [List.getElem?_eq_none (by simpa using z)] at e; cases e
    · rw [List.getElem?_set_ne q] at e
      obtain ⟨w, h3, h4⟩ := h2 i d e
      exact ⟨w, by rw [List.getElem?_set_ne q]; exact h3, h4⟩
theorem wipe_get (σ : L2.St) : ∀ (vs : List Nat) (i : Nat), (wipe σ vs)[i]? = if i ∈ vs then (if i < σ.length then some none else none) else σ[i]?
  | [], i => by simp [wipe]
  | v :: vs, i => by
    unfold wipe
    by_cases q : v = i
    · subst q
      simp only [List.mem_cons, true_or, if_true]
      rcases Nat.lt_or_ge v σ.length with z | z
      · rw [List.getElem?_set_self (by rw [wipe_length]; exact z), if_pos z]
      · rw [List.getElem?_eq_none (by rw [List.length_set, wipe_length]; exact z), if_neg (by omega)]
    · rw [List.getElem?_set_ne q, wipe_get σ vs i]
      have : (i ∈ v :: vs) = (i ∈ vs) := by
        rw [List.mem_cons]
        simp [show i ≠ v from fun z => q z.symm]
      simp only [this]
theorem wipe_only {σ σ' : L2.St} {ts vs : List Nat} (o : Only ts σ σ') (h : ∀ i ∈ ts, i ∈ vs) : wipe σ' vs = wipe σ vs := by
  apply List.ext_getElem?
  intro i
  rw [wipe_get, wipe_get, o.1]
  split
  · rfl
  · rename_i n
    exact o.2 i fun z => n (h i z)
theorem wipe_wipe {σ : L2.St} {vs : List Nat} : wipe (wipe σ vs) vs = wipe σ vs := by
  apply List.ext_getElem?
  intro i
  rw [wipe_get, wipe_get, wipe_length]
  split
  · rfl
  · rfl
def lcL (g : Tg) (tt : EvT) (te : EvE) (ρ : Slots) : List D → List D → Store → Res (List D × Store)
  | [], acc, S => .ok (acc, S)
  | x :: r, acc, S => match g x ρ with
    | none => .bad
    | some ρ1 => (tt ρ1 S).bind0 fun p => if p.1 = true then (te ρ1 p.2).bind0 fun q => if acc.length < 16777216 then lcL g tt te ρ r (acc ++ [q.1]) q.2 else .bad else lcL g tt te ρ r acc p.2
def eLc (fi : EvI) (vs : List Nat) (g : Tg) (tt : EvT) (te : EvE) : EvE := fun ρ S => (fi ρ S).bind fun p => (lcL g tt te (wipeD ρ vs) p.1 [] p.2).bind fun q => .ok (.lst q.1, q.2)
def eYes : EvT := fun _ S => .ok (true, S)

/-! what is out of sight -/
mutual
theorem VD.less {H : Hp} {m L L' : List Addr} (h : ∀ b, b ∈ L' → b ∈ L) : ∀ {d : D} {v : V}, VD G H m L d v → VD G H m L' d v
  | _, _, .non => .non
  | _, _, .bl b => .bl b
  | _, _, .int i => .int i
  | _, _, .str s => .str s
  | _, _, .tup hx r => .tup (hx.elim (fun q => .inl ⟨q.1, fun z => q.2 (h _ z)⟩) .inr) (VDs.less h r)
  | _, _, .lst hx n r => .lst hx (fun z => n (h _ z)) (VDs.less h r)
  | _, _, .scr hx r => .scr (hx.elim (fun q => .inl ⟨q.1, fun z => q.2 (h _ z)⟩) .inr) (VDs.less h r)
  | _, _, .ins hc hx n r => .ins hc hx (fun z => n (h _ z)) (FDs.less h r)
  | _, _, .ref q => .ref q
  | _, _, .dct hx n r => .dct hx (fun z => n (h _ z)) (KDs.less h r)
  | _, _, .ext hc hx n r => .ext hc hx (fun z => n (h _ z)) (VDs.less h r)
  | _, _, .cl h => .cl h
  | _, _, .exn hx q r => .exn hx (q.less h) (FDs.less h r)
theorem VDs.less {H : Hp} {m L L' : List Addr} (h : ∀ b, b ∈ L' → b ∈ L) : ∀ {d : List D} {v : List V}, VDs G H m L d v → VDs G H m L' d v
  | _, _, .nil => .nil
  | _, _, .cons a r => .cons (VD.less h a) (VDs.less h r)
theorem FDs.less {H : Hp} {m L L' : List Addr} (h : ∀ b, b ∈ L' → b ∈ L) : ∀ {d : List (Nat × D)} {v : List (Str × V)}, FDs G H m L d v → FDs G H m L' d v
  | _, _, .nil => .nil
  | _, _, .cons hn a r => .cons hn (VD.less h a) (FDs.less h r)
theorem KDs.less {H : Hp} {m L L' : List Addr} (h : ∀ b, b ∈ L' → b ∈ L) : ∀ {d : List (Key × D)} {v : List (Key × V)}, KDs G H m L d v → KDs G H m L' d v
  | _, _, .nil => .nil
  | _, _, .cons a r => .cons (VD.less h a) (KDs.less h r)
end
mutual
/-- one more address is out of sight: a new one -/
theorem VD.hide {H : Hp} {m L : List Addr} {p : Addr} {o : HO} (hp : H p = none) : ∀ {d : D} {v : V}, VD G H m L d v → VD G (upd H p o) m (p :: L) d v
  | _, _, .non => .non
  | _, _, .bl b => .bl b
  | _, _, .int i => .int i
  | _, _, .str s => .str s
  | _, _, .tup hx r => .tup (hx.elim (fun q => by
      obtain ⟨⟨o, e, hd⟩, n⟩ := q
      have ne : _ ≠ p := ne_of_none e hp
      exact .inl ⟨⟨o, by rw [upd_ne ne]; exact e, hd⟩, fun z => (List.mem_cons.mp z).elim ne n⟩) .inr) (VDs.hide hp r)
  | _, _, .lst hx n r => .lst (by rw [upd_ne (ne_of_none hx hp)]; exact hx) (fun z => (List.mem_cons.mp z).elim (ne_of_none hx hp) n) (VDs.hide hp r)
  | _, _, .scr hx r => .scr (hx.elim (fun q => by
      have ne : _ ≠ p := q.1.elim (fun e => ne_of_none e hp) fun ⟨_, e⟩ => ne_of_none e hp
      exact .inl ⟨q.1.elim (fun e => .inl (by rw [upd_ne ne]; exact e)) fun ⟨o, e⟩ => .inr ⟨o, by rw [upd_ne ne]; exact e⟩, fun z => (List.mem_cons.mp z).elim ne q.2⟩) .inr) (VDs.hide hp r)
  | _, _, .ins hc hx n r => .ins hc (by rw [upd_ne (ne_of_none hx hp)]; exact hx) (fun z => (List.mem_cons.mp z).elim (ne_of_none hx hp) n) (FDs.hide hp r)
  | _, _, .ref q => .ref q
  | _, _, .dct hx n r => .dct (by rw [upd_ne (ne_of_none hx hp)]; exact hx) (fun z => (List.mem_cons.mp z).elim (ne_of_none hx hp) n) (KDs.hide hp r)
  | _, _, .ext hc hx n r => .ext hc (by rw [upd_ne (ne_of_none hx hp)]; exact hx) (fun z => (List.mem_cons.mp z).elim (ne_of_none hx hp) n) (VDs.hide hp r)
  | _, _, .cl h => .cl h
  | _, _, .exn hx q r => .exn hx (q.elim .inl fun ⟨dx, e, h1, h2⟩ => .inr ⟨dx, e, by rw [upd_ne (ne_of_none h1 hp)]; exact h1, fun z => (List.mem_cons.mp z).elim (ne_of_none h1 hp) h2⟩) (FDs.hide hp r)
theorem VDs.hide {H : Hp} {m L : List Addr} {p : Addr} {o : HO} (hp : H p = none) : ∀ {d : List D} {v : List V}, VDs G H m L d v → VDs G (upd H p o) m (p :: L) d v
  | _, _, .nil => .nil
  | _, _, .cons a r => .cons (VD.hide hp a) (VDs.hide hp r)
theorem FDs.hide {H : Hp} {m L : List Addr} {p : Addr} {o : HO} (hp : H p = none) : ∀ {d : List (Nat × D)} {v : List (Str × V)}, FDs G H m L d v → FDs G (upd H p o) m (p :: L) d v
  | _, _, .nil => .nil
  | _, _, .cons hn a r => .cons hn (VD.hide hp a) (FDs.hide hp r)
theorem KDs.hide {H : Hp} {m L : List Addr} {p : Addr} {o : HO} (hp : H p = none) : ∀ {d : List (Key × D)} {v : List (Key × V)}, KDs G H m L d v → KDs G (upd H p o) m (p :: L) d v
  | _, _, .nil => .nil
  | _, _, .cons a r => .cons (VD.hide hp a) (KDs.hide hp r)
end
mutual
/-- what is out of sight may change -/
theorem VD.blind {H : Hp} {m L : List Addr} {p : Addr} {o : HO} (hp : p ∈ L) : ∀ {d : D} {v : V}, VD G H m L d v → VD G (upd H p o) m L d v
  | _, _, .non => .non
  | _, _, .bl b => .bl b
  | _, _, .int i => .int i
  | _, _, .str s => .str s
  | _, _, .tup (a := w) hx r => .tup (hx.elim (fun q => by
      have ne : w ≠ p := fun z => q.2 (by rw [z]; exact hp)
      obtain ⟨⟨o, e, hd⟩, n⟩ := q
      exact .inl ⟨⟨o, by rw [upd_ne ne]; exact e, hd⟩, n⟩) .inr) (VDs.blind hp r)
  | _, _, .lst hx n r => .lst (by rw [upd_ne (fun z => n (by rw [z]; exact hp))]; exact hx) n (VDs.blind hp r)
  | _, _, .scr (a := w) hx r => .scr (hx.elim (fun q => by
      have ne : w ≠ p := fun z => q.2 (by rw [z]; exact hp)
      exact .inl ⟨q.1.elim (fun e => .inl (by rw [upd_ne ne]; exact e)) fun ⟨o, e⟩ => .inr ⟨o, by rw [upd_ne ne]; exact e⟩, q.2⟩) .inr) (VDs.blind hp r)
  | _, _, .ins hc hx n r => .ins hc (by rw [upd_ne (fun z => n (by rw [z]; exact hp))]; exact hx) n (FDs.blind hp r)
  | _, _, .ref q => .ref q
  | _, _, .dct hx n r => .dct (by rw [upd_ne (fun z => n (by rw [z]; exact hp))]; exact hx) n (KDs.blind hp r)
  | _, _, .ext hc hx n r => .ext hc (by rw [upd_ne (fun z => n (by rw [z]; exact hp))]; exact hx) n (VDs.blind hp r)
  | _, _, .cl h => .cl h
  | _, _, .exn hx q r => .exn hx (q.elim .inl fun ⟨dx, e, h1, h2⟩ => .inr ⟨dx, e, by rw [upd_ne (fun z => h2 (by rw [z]; exact hp))]; exact h1, h2⟩) (FDs.blind hp r)
theorem VDs.blind {H : Hp} {m L : List Addr} {p : Addr} {o : HO} (hp : p ∈ L) : ∀ {d : List D} {v : List V}, VDs G H m L d v → VDs G (upd H p o) m L d v
  | _, _, .nil => .nil
  | _, _, .cons a r => .cons (VD.blind hp a) (VDs.blind hp r)
theorem FDs.blind {H : Hp} {m L : List Addr} {p : Addr} {o : HO} (hp : p ∈ L) : ∀ {d : List (Nat × D)} {v : List (Str × V)}, FDs G H m L d v → FDs G (upd H p o) m L d v
  | _, _, .nil => .nil
  | _, _, .cons hn a r => .cons hn (VD.blind hp a) (FDs.blind hp r)
theorem KDs.blind {H : Hp} {m L : List Addr} {p : Addr} {o : HO} (hp : p ∈ L) : ∀ {d : List (Key × D)} {v : List (Key × V)}, KDs G H m L d v → KDs G (upd H p o) m L d v
  | _, _, .nil => .nil
  | _, _, .cons a r => .cons (VD.blind hp a) (KDs.blind hp r)
end
theorem CellOk.map {H H' : Hp} {m L L' : List Addr} {c : Cell} {q : Addr} (hq : c.live = true → H' q = H q) (f : ∀ d v, VDs G H m L d v → VDs G H' m L' d v) (g : ∀ d v, FDs G H m L d v → FDs G H' m L' d v) (g2 : ∀ d v, KDs G H m L d v → KDs G H' m L' d v) (g3 : ∀ a o, H a = some o → a ∉ L → H' a = some o ∧ a ∉ L') (h : CellOk G H m L c q) : CellOk G H' m L' c q := by
  cases c with
  | dead => trivial
  | lst xs => obtain ⟨ys, h1, h2⟩ := h; exact ⟨ys, (hq rfl).trans h1, f _ _ h2⟩
  | ins c fs => obtain ⟨C, dx, gs, hc, h1, h2⟩ := h; exact ⟨C, dx, gs, hc, (hq rfl).trans h1, g _ _ h2⟩
  | dct ks => obtain ⟨gs, h1, h2⟩ := h; exact ⟨gs, (hq rfl).trans h1, g2 _ _ h2⟩
  | tbl i =>
    obtain ⟨q, ps, h0, h1, h2, h3⟩ := h
    exact ⟨q, ps, h0, (hq rfl).trans h1, h2, fun pos cv e => let ⟨c, e1, e2, n⟩ := h3 pos cv e; ⟨c, e1, g3 c _ e2 n⟩⟩
variable {F : List Addr} {H : Hp} {m : List Addr} {S : Store}
theorem SR.hide {p : Addr} {o : HO} (s : SR G F H m S) (hp : H p = none) : SR G (p :: F) (upd H p o) m S where
  len := s.len
  nd := s.nd
  trk := (s.new (o := o) hp).trk
  ftr := fun a h => by
    rcases List.mem_cons.mp h with rfl | h
    · exact ⟨⟨o, upd_same⟩, s.fresh hp⟩
    · exact (s.new (o := o) hp).ftr a h
  cell := fun n c q h1 h2 => (s.cell n c q h1 h2).map (fun _ => by
    obtain ⟨u, e⟩ := s.trk q (List.mem_of_getElem? h2)
    exact upd_ne (ne_of_none e hp)) (fun _ _ r => VDs.hide hp r) (fun _ _ r => FDs.hide hp r) (fun _ _ r => KDs.hide hp r) fun a u h n => ⟨by rw [upd_ne (ne_of_none h hp)]; exact h, fun z => (List.mem_cons.mp z).elim (ne_of_none h hp) n⟩
theorem SR.show {p : Addr} (s : SR G (p :: F) H m S) : SR G F H m S where
  len := s.len
  nd := s.nd
  trk := s.trk
  ftr := fun a h => s.ftr a (List.mem_cons_of_mem _ h)
  cell := fun n c q h1 h2 => (s.cell n c q h1 h2).map (fun _ => rfl) (fun _ _ r => VDs.less (fun b z => List.mem_cons_of_mem _ z) r) (fun _ _ r => FDs.less (fun b z => List.mem_cons_of_mem _ z) r) (fun _ _ r => KDs.less (fun b z => List.mem_cons_of_mem _ z) r) fun a u h n => ⟨h, fun z => n (List.mem_cons_of_mem _ z)⟩
theorem SR.blind {p : Addr} {o : HO} (s : SR G F H m S) (hp : p ∈ F) : SR G F (upd H p o) m S where
  len := s.len
  nd := s.nd
  trk := fun a h => by
    obtain ⟨u, e⟩ := s.trk a h
    have ne : a ≠ p := fun z => (s.ftr p hp).2 (by rw [← z]; exact h)
    exact ⟨u, by rw [upd_ne ne]; exact e⟩
  ftr := fun a h => by
    obtain ⟨⟨u, e⟩, n⟩ := s.ftr a h
    by_cases q : a = p
    · subst q; exact ⟨⟨o, upd_same⟩, n⟩
    · exact ⟨⟨u, by rw [upd_ne q]; exact e⟩, n⟩
  cell := fun n c q h1 h2 => (s.cell n c q h1 h2).map (fun _ => upd_ne fun z => (s.ftr p hp).2 (by rw [← z]; exact List.mem_of_getElem? h2)) (fun _ _ r => VDs.blind (List.mem_append_left _ hp) r) (fun _ _ r => FDs.blind (List.mem_append_left _ hp) r) (fun _ _ r => KDs.blind (List.mem_append_left _ hp) r) fun a u h n => ⟨by rw [upd_ne (fun z => n (by rw [z]; exact List.mem_append_left _ hp))]; exact h, n⟩
theorem XD.less {L L' : List Addr} (h : ∀ b, b ∈ L' → b ∈ L) {x : Exc} {cls : Value} {dd : Option Addr} (r : XD G H m L x cls dd) : XD G H m L' x cls dd :=
  let ⟨C, gs, h1, h2, h3, h4⟩ := r
  ⟨C, gs, h1, h2, h3.less h, FDs.less h h4⟩
theorem RunE.hide {p : Addr} {r : Res (D × Store)} {Q : VK} {L : List Addr} (h : RunE G E F r H m L Q) : RunE G E (p :: F) r H m L Q := by
  cases r with
  | ok a => exact fun v H' m' k s r => h v H' m' k s.show (VD.less (fun b z => List.mem_cons_of_mem _ z) r)
  | exc x S' => exact fun c d H' m' k s r => h c d H' m' k s.show (XD.less (fun b z => List.mem_cons_of_mem _ z) r)
  | bad => exact h
theorem Kp.blind {H H' : Hp} {m m' L L' : List Addr} {p : Addr} {o : HO} (k : Kp H m L H' m' L') (hp : H p = none) : Kp H m L (upd H' p o) m' L' :=
  ⟨fun b u h n => by rw [upd_ne (ne_of_none h hp)]; exact k.same b u h n, k.news, k.ext⟩
/-- a step of a comprehension: it lets no exception out, the list that grows is out of sight -/
theorem tX_step {F' : List Addr} {ρ' : Slots} {σ' : L2.St} {f : EvE} {g : D × Store → Res (D × Store)} {Q Q' : VK} {Hb : Hp} {mb Lb : List Addr} (hE : EnvR G H m (lw F' m S) ρ' σ') (hS : SR G F' H m S) (h : RunE G E F ((f ρ' S).bind0 g) Hb mb Lb Q)
    (hQ : ∀ d S1 v H1 m1, Kp H m (lv m S) H1 m1 (lv m1 S1) → EnvR G H1 m1 (lw F' m1 S1) ρ' σ' → SR G F' H1 m1 S1 → VD G H1 m1 (lw F' m1 S1) d v → RunE G E F (g (d, S1)) Hb mb Lb Q → Q' v H1) : tX G E0 f σ' H Q' := by
  refine ⟨F', ρ', m, S, hE, hS, ?_⟩
  cases q : f ρ' S with
  | ok a =>
    obtain ⟨d, S1⟩ := a
    rw [q] at h
    exact fun v H1 m1 k s r => hQ d S1 v H1 m1 k (hE.mono k) s r h
  | exc x S' => rw [q] at h; exact h.elim
  | bad => rw [q] at h; exact h
theorem tT_step {F' : List Addr} {ρ' : Slots} {σ' : L2.St} {f : EvT} {g : Bool × Store → Res (D × Store)} {Q : VK} {Q' : Bool → Hp → Prop} {Hb : Hp} {mb Lb : List Addr} (hE : EnvR G H m (lw F' m S) ρ' σ') (hS : SR G F' H m S) (h : RunE G E F ((f ρ' S).bind0 g) Hb mb Lb Q)
    (hQ : ∀ d S1 H1 m1, Kp H m (lv m S) H1 m1 (lv m1 S1) → EnvR G H1 m1 (lw F' m1 S1) ρ' σ' → SR G F' H1 m1 S1 → RunE G E F (g (d, S1)) Hb mb Lb Q → Q' d H1) : tT G E0 f σ' H Q' := by
  refine ⟨F', ρ', m, S, hE, hS, ?_⟩
  cases q : f ρ' S with
  | ok a =>
    obtain ⟨d, S1⟩ := a
    rw [q] at h
    exact fun H1 m1 k s => hQ d S1 H1 m1 k (hE.mono k) s h
  | exc x S' => rw [q] at h; exact h.elim
  | bad => rw [q] at h; exact h
theorem bind0_bind {α β γ : Type} (r : Res α) (f : α → Res β) (g : β → Res γ) : (r.bind0 f).bind g = r.bind0 fun a => (f a).bind g := by
  cases r <;> rfl
theorem tLc_of {wi : TI} {gt : TG} {tt : TT} {te : TE} {fi : EvI} {g : Tg} {ft : EvT} {fe : EvE} {vs ts : List Nat} (hi : ∀ σ H R, tI G E fi σ H R → wi σ H R) (ok : TgOk G gt g ts) (hsub : ∀ i ∈ ts, i ∈ vs)
    (ht : ∀ σ H Q, tT G E0 ft σ H Q → tt σ H Q) (he : ∀ σ H Q, tX G E0 fe σ H Q → te σ H Q) {σ : L2.St} {Q : VK} (h : tX G E (eLc fi vs g ft fe) σ H Q) : tLc wi gt tt te vs σ H Q := by
  obtain ⟨F, ρ, m, S, hE, hS, h⟩ := h
  refine hi _ _ _ ⟨F, ρ, m, S, hE, hS, ?_⟩
  unfold eLc at h
  cases q : fi ρ S with
  | exc x S' => rw [q] at h; exact h
  | bad => rw [q] at h; exact h
  | ok a =>
    obtain ⟨xs, S1⟩ := a
    rw [q] at h
    intro J H1 m1 k1 s1 w1 D hD
    have e1 := hE.mono k1
    have h1 : RunE G E F ((lcL g ft fe (wipeD ρ vs) xs [] S1).bind fun q => .ok (.lst q.1, q.2)) H1 m1 (lv m1 S1) Q := RunE.mono k1 h
    have kD : Kp H1 m1 (lv m1 S1) (upd H1 D (.lst [])) m1 (lv m1 S1) := Kp.new s1 hD
    refine ⟨fun i mm H2 => mm = xs.length - i ∧ i ≤ xs.length ∧ ∃ m2 S2 acc av, H2 D = some (.lst av) ∧ VDs G H2 m2 (lw (D :: F) m2 S2) acc av ∧ (∀ d v, VD G H1 m1 (lw F m1 S1) d v → VD G H2 m2 (lw (D :: F) m2 S2) d v) ∧ SR G (D :: F) H2 m2 S2 ∧ Kp H1 m1 (lv m1 S1) H2 m2 (lv m2 S2) ∧
        RunE G E F ((lcL g ft fe (wipeD ρ vs) (xs.drop i) acc S2).bind fun q => .ok (.lst q.1, q.2)) H1 m1 (lv m1 S1) Q,
      ⟨_, rfl, Nat.zero_le _, m1, S1, [], [], upd_same, .nil, fun _ _ r => VD.hide hD r, s1.hide hD, kD, h1⟩, ?_⟩
    rintro i mm H2 ⟨rfl, hi2, m2, S2, acc, av, hD2, ra, tr, s2, k2, h2⟩
    have e2 : EnvR G H2 m2 (lw (D :: F) m2 S2) (wipeD ρ vs) (wipe σ vs) := by
      obtain ⟨a1, a2⟩ := e1.wipe vs
      exact ⟨a1, fun i d e => let ⟨v, b1, b2⟩ := a2 i d e; ⟨v, b1, tr _ _ b2⟩⟩
    obtain ⟨w2, w3⟩ := w1 (D :: F) H2 m2 S2 tr s2
    cases q1 : xs[i]? with
    | none =>
      have hle := List.getElem?_eq_none_iff.mp q1
      rw [List.drop_of_length_le hle] at h2
      have nD : D ∉ lw F m2 S2 := fun z => by
        rcases List.mem_append.mp z with z | z
        · obtain ⟨⟨u, e⟩, _⟩ := s1.ftr D z
          rw [hD] at e; cases e
        · exact (s2.ftr D List.mem_cons_self).2 (lv_sub z)
      exact .inl ⟨w3 i hle, (show RunE G E F (.ok (.lst acc, S2)) H1 m1 (lv m1 S1) Q from h2) _ _ m2 k2 s2.show (.lst hD2 nD (VDs.less (fun b z => List.mem_cons_of_mem _ z) ra))⟩
    | some d =>
      have hlt : i < xs.length := (List.getElem?_eq_some_iff.mp q1).1
      rw [drop_of q1] at h2
      refine .inr ⟨(w2 i d q1).1, fun H' => ∃ m2 S2 acc av, H' D = some (.lst av) ∧ VDs G H' m2 (lw (D :: F) m2 S2) acc av ∧ (∀ d v, VD G H1 m1 (lw F m1 S1) d v → VD G H' m2 (lw (D :: F) m2 S2) d v) ∧ SR G (D :: F) H' m2 S2 ∧ Kp H1 m1 (lv m1 S1) H' m2 (lv m2 S2) ∧
          RunE G E F ((lcL g ft fe (wipeD ρ vs) (xs.drop (i + 1)) acc S2).bind fun q => .ok (.lst q.1, q.2)) H1 m1 (lv m1 S1) Q,
        fun H' n => ⟨xs.length - (i + 1), by omega, rfl, hlt, n⟩, fun x H3 y => ?_⟩
      obtain ⟨k3, s3, r3⟩ := (w2 i d q1).2 x H3 y
      have e3 := e2.mono k3
      have h3 := h2
      have inD : D ∈ D :: F := List.mem_cons_self
      have nL : D ∉ lv m2 S2 := fun z => (s2.ftr D inD).2 (lv_sub z)
      have hD3 : H3 D = some (.lst av) := k3.same _ _ hD2 nL
      unfold lcL at h3
      cases q0 : g d (wipeD ρ vs) with
      | none => simp only [q0] at h3; exact h3.elim
      | some ρ0 =>
        simp only [q0] at h3
        refine ok _ ρ0 _ H3 m2 _ d x _ e3 r3 q0 fun σ4 e4 o4 => ⟨(wipe_only o4 hsub).trans wipe_wipe, ht _ _ _ ?_⟩
        rw [bind0_bind] at h3
        refine tT_step e4 s3 h3 fun b S5 H5 m5 k5 e5 s5 h5 => ?_
        have nL5 : D ∉ lv m2 S2 := nL
        have hD5 : H5 D = some (.lst av) := k5.same _ _ hD3 nL
        have tr5 : ∀ d v, VD G H1 m1 (lw F m1 S1) d v → VD G H5 m5 (lw (D :: F) m5 S5) d v := fun d v r => ((tr d v r).mono k3).mono k5
        have ra5 := (ra.mono k3).mono k5
        cases b with
        | false =>
          rw [if_neg Bool.false_ne_true]
          exact ⟨m5, S5, acc, av, hD5, ra5, tr5, s5, (k2.trans k3).trans k5, h5⟩
        | true =>
          rw [if_pos rfl]
          simp only [if_true] at h5
          rw [bind0_bind] at h5
          refine he _ _ _ (tX_step e5 s5 h5 fun z S6 v H6 m6 k6 e6 s6 r6 h6 => ?_)
          have nL6 : D ∉ lv m5 S5 := fun z => (s5.ftr D inD).2 (lv_sub z)
          have hD6 : H6 D = some (.lst av) := k6.same _ _ hD5 nL6
          have ra6 := ra5.mono k6
          revert h6
          simp only
          split
          · rename_i hz
            intro h6
            have hz' : av.length < sizeLine := by rw [← ra6.length, sizeLine_eq]; exact hz
            have inW : D ∈ lw (D :: F) m6 S6 := List.mem_append_left _ inD
            exact ⟨av, hD6, hz', m6, S6, acc ++ [z], av ++ [v], upd_same, (VDs.blind inW ra6).append (.cons (VD.blind inW r6) .nil), fun d v r => VD.blind inW ((tr5 d v r).mono k6), s6.blind inD, Kp.blind (((k2.trans k3).trans k5).trans k6) hD, h6⟩
          · intro h6; exact h6.elim
theorem Wf.blk (W : Wf X G) {s : Shared} {H : Hp} {scope : Scope} {env : Env} {fp : List Addr} : Wf (X.blk s H scope env fp) G := ⟨W.K, W.nd, W.units, W.guards⟩
theorem ts_nil : PTs X [] (tT G E eYes) := ⟨fun pins s σ H Q I ⟨F, ρ, m, S, hE, hS, h⟩ => pts_nil.run pins s σ H Q I (RunT.here h hS)⟩
theorem ts_one {ta : EvT} (h : PT X c (tT G E ta)) : PTs X [c] (tT G E ta) := pts_one h
theorem x_lc (W : Wf X G) (hc : X.calm = true) (hN : X.N.Nodup) {elt tg iter : Expr} {ifs : List Expr} {scope : Scope} {own : List (Str × Nat)} {fi : EvI} {gt : TG} {g : Tg} {ts : List Nat} {ft : EvT} {fe : EvE} (hi : PI X tg iter (tI G E fi)) (ok : BlkOk X.N X.env.scope scope own)
    (hg : ∀ (s : Shared) (H : Hp) (C : Addr) (cl : List (Str × Addr)) (fp : List Addr), PG (X.blk s H scope (compEnvC scope cl C X.env) fp) tg gt) (okT : TgOk G gt g ts) (hsub : ∀ i ∈ ts, i ∈ own.map (·.2))
    (ht : ∀ (s : Shared) (H : Hp) (C : Addr) (cl : List (Str × Addr)) (fp : List Addr), PTs (X.blk s H scope (compEnvC scope cl C X.env) fp) ifs (tT G E0 ft))
    (he : ∀ (s : Shared) (H : Hp) (C : Addr) (cl : List (Str × Addr)) (fp : List Addr), PE (X.blk s H scope (compEnvC scope cl C X.env) fp) elt (tX G E0 fe)) (hs : ∀ x, foldedSetIterable iter X.env x = pure x := by intro _; rfl) :
    PE X (.ListComp elt [⟨tg, iter, ifs, 0⟩] scope pos) (tX G E (eLc fi (own.map (·.2)) g ft fe)) :=
  PE.weak (pe_lc hc hN hi ok hg ht he hs) fun _ _ _ h => tLc_of (fun _ _ _ h => h) okT hsub (fun _ _ _ h => h) (fun _ _ _ h => h) h
/-- name = [..] -/
theorem s_setLc (W : Wf X G) (hc : X.calm = true) (hN : X.N.Nodup) {i : Nat} {y : Str} {py spos : Pos} {elt tg iter : Expr} {ifs : List Expr} {scope : Scope} {own : List (Str × Nat)} {fi : EvI} {gt : TG} {g : Tg} {ts : List Nat} {ft : EvT} {fe : EvE} (hi : PI X tg iter (tI G E fi)) (ok : BlkOk X.N X.env.scope scope own)
    (hg : ∀ (s : Shared) (H : Hp) (C : Addr) (cl : List (Str × Addr)) (fp : List Addr), PG (X.blk s H scope (compEnvC scope cl C X.env) fp) tg gt) (okT : TgOk G gt g ts) (hsub : ∀ i ∈ ts, i ∈ own.map (·.2))
    (ht : ∀ (s : Shared) (H : Hp) (C : Addr) (cl : List (Str × Addr)) (fp : List Addr), PTs (X.blk s H scope (compEnvC scope cl C X.env) fp) ifs (tT G E0 ft))
    (he : ∀ (s : Shared) (H : Hp) (C : Addr) (cl : List (Str × Addr)) (fp : List Addr), PE (X.blk s H scope (compEnvC scope cl C X.env) fp) elt (tX G E0 fe))
    (hy : X.N[i]? = some y := by rfl) (hyl : X.env.scope.names.lookup y = some .local := by rfl) (hsw : swapsWith (.ListComp elt [⟨tg, iter, ifs, 0⟩] scope pos) (some (.Name y py)) spos.line X.env = pure true := by exact sw_true rfl rfl rfl (by decide +kernel)) (hs : ∀ x, foldedSetIterable iter X.env x = pure x := by intro _; rfl) :
    PS X (.Assign [.Name y py] (.ListComp elt [⟨tg, iter, ifs, 0⟩] scope pos) spos) (tS G E (sSet i (eLc fi (own.map (·.2)) g ft fe))) :=
  PS.weak (ps_setLc hc hN hy hyl hsw hi ok hg ht he hs) fun Dn σ H ⟨F, ρ, m, S, hE, hS, h⟩ => tLc_of (fun _ _ _ h => h) okT hsub (fun _ _ _ h => h) (fun _ _ _ h => h) (tX_out hE hS h fun d S1 v H1 m1 k1 e1 s1 r1 h1 => RunS.nxt h1 s1 (e1.set r1))
end
end Pd
end
section
/-! Pd, part En: enumerate over a tuple. -/
namespace Pd
open PySem PySem.Spec PyProof.Rows L2
open PySem.Sem (wp)
open PySem.AutoSeq1 (wpAny_loadPart')
abbrev tupIt (t : Addr) : Obj := { cls := .type "tuple_iterator", data := .fields #[.ref t, .int 0 0] }
abbrev enumOb (i : Addr) : Obj := { cls := .type "enumerate", data := .fields #[.none, .bool false, .ref i, rawInt 0, .none, .none] }
/-- enumerate(t) of a tuple is made -/
theorem enum_newT (t : Addr) (vs : Array Value) (n : Nat) (dd : Option Addr) (sl : Array (Option Value)) :
    Meets (Builtin.«enumerate.__new__» ⟨[.type "enumerate", .ref t], []⟩) (fun _ R s => s.heap.get? t = some { cls := .type "tuple", dict := dd, data := .seq vs n, slots := sl } ∧ R (.ok (.ret (.ref (s.heap.push (tupIt t)).objs.size))) { s with heap := (s.heap.push (tupIt t)).push (enumOb s.heap.objs.size) }) :=
  .of_wp fun prog w A R s q => by
    obtain ⟨hp, g, d, tk, os⟩ := s
    obtain ⟨ht, q⟩ := q
    have sub := sub_enumerate
    have isT : Heap.IsTuple (Shared.heap ⟨hp, g, d, tk, os⟩) t vs := ⟨_, ht, rfl, n, rfl⟩
    wp_walk using wpAny_loadPart' ht
    refine wpAny_stack_any fun st => (wpAny_pure ?_)
    split
    · rename_i c _ _ _ _ _
      cases (c == Value.type "enumerate") <;>
      · wp_walk using wpAny_loadPart' ht, wpAny_pyIter_tuple isT
        exact ⟨_, rfl, q⟩
    · wp_walk using wpAny_loadPart' ht, wpAny_pyIter_tuple isT
      exact ⟨_, rfl, q⟩
section
variable {prog : Program} {w : World} {A : Around} {E : Value → Shared → Prop} {s : Shared}
theorem enum_callT {t : Addr} {vs : Array Value} {Q : Value → Shared → Prop} (hT : s.heap.IsTuple t vs)
    (q : ∀ h', IsEnum h' (s.heap.objs.size + 1) s.heap.objs.size 0 .none → h'.IsTupleIter s.heap.objs.size t 0 → h'.objs.size = s.heap.objs.size + 2 → (∀ b o, s.heap.get? b = some o → h'.get? b = some o) → Q (.ref (s.heap.objs.size + 1)) { s with heap := h' }) :
    wpAny (model prog w) A (call (.type "enumerate") [.ref t]) Q E s := by
  obtain ⟨⟨cl, dd, da, sl⟩, ht, hc, n, hd⟩ := hT
  obtain rfl : cl = .type "tuple" := hc
  obtain rfl : da = .seq vs n := hd
  refine callType_new F.called_enumerate (by decide) (F.typeCall_enumerate_1 _) (F.newCall_enumerate_1 _) (fun obj => F.args_object_init_2 obj _) F.entry_enumerate_new (enum_newT t vs n dd sl) ⟨ht, ?_⟩
  have z : (s.heap.push (tupIt t)).objs.size = s.heap.objs.size + 1 := Heap.size_push ..
  show _ ∧ _
  rw [z]
  have e0 : IsEnum ((s.heap.push (tupIt t)).push (enumOb s.heap.objs.size)) (s.heap.objs.size + 1) s.heap.objs.size 0 .none := by
    have := Heap.get?_push_size (s.heap.push (tupIt t)) (o := enumOb s.heap.objs.size) rfl
    rw [z] at this
    exact this
  exact ⟨⟨_, e0, rfl⟩, q _ e0 ⟨_, Heap.get?_push_of_some _ (Heap.get?_push_size _ rfl), rfl, rfl⟩ (by rw [Heap.size_push, z]) fun b o x => Heap.get?_push_of_some _ (Heap.get?_push_of_some _ x)⟩
end
/-- the walk over enumerate(a), a a tuple of n -/
def IteT (K : PySem.W.Frag) (a : Addr) (n : Nat) : It :=
  ⟨fun i H => ∃ (xs : List V) (x : V), SqT K H a xs ∧ xs.length = n ∧ xs[i]? = some x, fun i H v H' => ∃ T x o, v = .ref T ∧ H T = none ∧ o.dict = none ∧ H' = upd H T (.frz o (.tup [.int (i : Nat), x])) ∧ ∀ xs, SqT K H a xs → xs[i]? = some x, fun i H => ∃ xs : List V, SqT K H a xs ∧ xs.length = n ∧ n ≤ i⟩
theorem turnT_enum {P : Program} {w : World} {K : PySem.W.Frag} {elts : List Expr} {kk : Nat} {tpos : Pos} (a e it : Addr) (n : Nat) :
    Turn P w K (.Tuple elts kk tpos) (IteT K a n) [e, it] e (fun i h => (∃ old, IsEnum h e it ((i : Nat) : Int) old) ∧ h.IsTupleIter it a i ∧ e ≠ it ∧ i ≤ n) where
  mem := List.mem_cons_self ..
  obj := fun i h st b hb => by
    obtain ⟨⟨old, he⟩, ⟨o, ho, hc, hd⟩, _⟩ := st
    rcases (by simpa using hb : b = e ∨ b = it) with z | z
    · subst z; exact ⟨_, he, fun v q => nomatch q⟩
    · subst z; exact ⟨o, ho, fun v q => by rw [hd] at q; cases q⟩
  keep := fun i h h' st k => let ⟨⟨old, he⟩, hi, hne, hn⟩ := st; ⟨⟨old, k e (by simp) _ he⟩, hi.at fun o q => k it (by simp) o q, hne, hn⟩
  item := by
    intro X hP hw hK hc i pins s σ H E I hf st hg
    subst hP; subst hw; subst hK
    obtain ⟨⟨old, he⟩, hit, hne, hn⟩ := st
    obtain ⟨xs, x, hq, hl, hx⟩ := hg
    obtain ⟨its, rv, p, hz⟩ := I.tuple hq
    have pT : s.heap.IsTuple a its.toArray := p
    obtain ⟨u, hu, ru⟩ := rv.get hx
    have hel : e < s.heap.objs.size := Heap.lt_size he
    have hil : it < s.heap.objs.size := by obtain ⟨_, q, _⟩ := hit; exact Heap.lt_size q
    have nai : a ≠ it := fun z => by
      subst z
      obtain ⟨o, ho, hc1, _⟩ := id hit
      obtain ⟨o', ho', hc2, _⟩ := id pT
      rw [ho] at ho'; cases ho'
      rw [hc1] at hc2; exact absurd hc2 (by simp)
    have nae : e ≠ a := fun z => by
      subst z
      obtain ⟨o', ho', hc2, _⟩ := id pT
      rw [he] at ho'; cases ho'
      exact absurd hc2 (by simp)
    have hlen := rv.length
    have hin : i < its.toArray.size := by
      have := (List.getElem?_eq_some_iff.mp hx).1
      simp; omega
    refine wpAny_pyNext_enum_itemD (Draws.tuple (A := X.A.in1) (I.ok.hd hc) it a nai its.toArray) he ⟨hit, pT⟩ hin hne (by simp [hne, nae]) fun y h' tk hy ho st' hT hsz hk => ?_
    obtain rfl : y = u := by
      have : its[i]? = some y := by simpa using hy
      rw [hu] at this; cases this; rfl
    obtain ⟨hit', _⟩ := st'
    refine ⟨_, rfl, wpAny_letOwnedTupleGo_enum (s := { s with heap := h', toks := tk + 1 }) ho fun h'' he' sb => ?_⟩
    have hT2 : h''.get? s.heap.objs.size = some { cls := .type "tuple", data := .seq #[.int i tk, y] } := (sb.2 _ (Nat.ne_of_gt hel)).trans hT
    have fresh : ObjOk X.prog X.w (upd H s.heap.objs.size (.frz { cls := .type "tuple", data := .seq #[.int i tk, y] } (.tup [.int (i : Nat), x]))) h'' s.heap.objs.size (.frz { cls := .type "tuple", data := .seq #[.int i tk, y] } (.tup [.int (i : Nat), x])) := ⟨hT2, by show 2 ≤ sizeLine; decide, [.int i tk, y], .cons ⟨_, rfl⟩ (.cons ru .nil), ⟨_, hT2, rfl, _, rfl⟩⟩
    have I1 : Inv X pins σ (upd H s.heap.objs.size (.frz { cls := .type "tuple", data := .seq #[.int i tk, y] } (.tup [.int (i : Nat), x]))) { s with heap := h'', toks := tk + 1 } :=
      I.turnedNew (ch := [e, it]) (fun b ob hb q => (sb.2 b fun z => hb (by simp [z])).trans (hk b ob (fun z => hb (by simp [z])) (fun z => hb (by simp [z])) q)) hf (Nat.le_refl _) fresh
    refine ⟨.ref s.heap.objs.size, _, I1, rfl, ⟨_, x, _, rfl, I.hok.fresh (Nat.le_refl _), rfl, rfl, fun ys hy => by rw [I.tuple_inj hy hq]; exact hx⟩, ⟨⟨y, ?_⟩, hit'.at fun o q => (sb.2 it (Ne.symm hne)).trans q, hne, ?_⟩, fun b hb => ?_⟩
    · rw [show ((i + 1 : Nat) : Int) = (i : Int) + 1 by omega]
      exact he'
    · have := (List.getElem?_eq_some_iff.mp hx).1
      omega
    · have hb' : b < s.heap.objs.size := by
        rcases (by simpa using hb : b = e ∨ b = it) with z | z <;> subst z <;> assumption
      rw [upd_ne (Nat.ne_of_lt hb')]
      exact (hf b hb).1
  done := by
    intro X hP hw hK hc i pins s σ H E I hf st hg
    subst hP; subst hw; subst hK
    obtain ⟨⟨old, he⟩, hit, hne, hn⟩ := st
    obtain ⟨xs, hq, hl, hx⟩ := hg
    obtain ⟨its, rv, p, hz⟩ := I.tuple hq
    have pT : s.heap.IsTuple a its.toArray := p
    obtain ⟨f0, f1, f2, f3, f4, f5⟩ := hf it (by simp)
    have nai : a ≠ it := fun z => by
      subst z
      obtain ⟨o, ho, hc1, _⟩ := id hit
      obtain ⟨o', ho', hc2, _⟩ := id pT
      rw [ho] at ho'; cases ho'
      rw [hc1] at hc2; exact absurd hc2 (by simp)
    have hlen := rv.length
    have ei : i = its.toArray.size := by simp; omega
    subst ei
    exact wpAny_pyNext_enum_endD (Draws.tuple (A := X.A.in1) (I.ok.hd hc) it a nai its.toArray) he ⟨hit, pT⟩ fun h' eb => ⟨rfl, I.turned (t' := s.toks) (fun b o hb q => eb b o hb q) f0 f1 f3 f4 f5⟩
  self := fun A i s Q E st h => let ⟨⟨_, he⟩, _⟩ := st; wpAny_pyIter_enum he h
def iEnT (K : PySem.W.Frag) (ta : TA) : TI := fun σ H R => ta σ H fun vs H1 => ∃ a xs, vs = [.ref a] ∧ SqT K H1 a xs ∧ R (IteT K a xs.length) H1
theorem pi_enumT {X : Cx} {e : Expr} {ta : TA} {p pos tpos : Pos} {elts : List Expr} {kk : Nat} (hg : Gl X "enumerate") (hm : X.mg "enumerate" = none) (ha : PA X [e] ta) (hs : starEach [e] X.env = [(false, eval e X.env)] := by rfl) :
    PI X (.Tuple elts kk tpos) (.Call (.Name "enumerate" p) [e] [] pos) (iEnT X.K ta) := by
  constructor
  intro pins s σ H R I h
  refine Call_ (ld_blt I hg hm boot_enumerate (PyProof.Rows.callWith_type1 (thn (ha.run pos pins s σ H _ I h) fun us s1 r => ?_) hs rfl))
  obtain ⟨vs, H1, I1, r1, a, xs, rfl, hq, q⟩ := r
  cases r1 with
  | cons r rr =>
    cases rr
    cases r
    obtain ⟨its, rv, p', hz⟩ := I1.tuple hq
    refine enum_callT (show s1.heap.IsTuple a its.toArray from p') fun h' he hit hsz hk => wpAny_pyIter_enum he ?_
    have I2 : Inv X pins σ H1 { s1 with heap := h' } := I1.kept (t' := s1.toks) hk
    refine ⟨s1.heap.objs.size + 1, [s1.heap.objs.size + 1, s1.heap.objs.size], _, _, H1, rfl, I2, turnT_enum a (s1.heap.objs.size + 1) s1.heap.objs.size xs.length, ⟨⟨.none, he⟩, hit, Nat.succ_ne_self _, Nat.zero_le _⟩, fun b hb => ?_, q⟩
    have hle : s1.heap.objs.size ≤ b := by
      rcases (by simpa using hb : b = s1.heap.objs.size + 1 ∨ b = s1.heap.objs.size) with z | z
      · rw [z]; omega
      · rw [z]; omega
    exact I1.fpOk hle (I1.hok.fresh hle)
section
variable {X : Cx} {G : Ga} {E : XK}
/-- pairs of an index and an item -/
def enumD (xs : List D) : List D := (xs.zipIdx).map fun p => .tup [.int (p.2 : Nat), p.1]
theorem enumD_len (xs : List D) : (enumD xs).length = xs.length := by simp [enumD]
theorem enumD_get {xs : List D} {i : Nat} {d : D} (h : (enumD xs)[i]? = some d) : ∃ x, xs[i]? = some x ∧ d = .tup [.int (i : Nat), x] := by
  unfold enumD at h
  rw [List.getElem?_map, List.getElem?_zipIdx] at h
  cases q : xs[i]? with
  | none => rw [q] at h; cases h
  | some x =>
    rw [q] at h
    cases h
    exact ⟨x, rfl, by simp⟩
def iEnum (g : EvA) : EvI := fun ρ S => (g ρ S).bind fun p => match p.1 with
  | [.tup xs] => .ok (enumD xs, p.2)
  | _ => .bad
theorem wk_enumT {F : List Addr} {H : Hp} {m : List Addr} {S : Store} {xs : List D} {a : Addr} (r : VD G H m (lw F m S) (.tup xs) (.ref a)) : Wk G (IteT G.K a xs.length) F H m S (enumD xs) := by
  intro F' H' m' S' k s
  have r' := k _ _ r
  cases r' with
  | tup h rs =>
    refine ⟨fun i d hd => ?_, fun i hi => ⟨_, h.sq, rs.length.symm, by rw [enumD_len] at hi; exact hi⟩⟩
    obtain ⟨y, h1, rfl⟩ := enumD_get hd
    obtain ⟨v, h2, h3⟩ := rs.get h1
    refine ⟨⟨_, v, h.sq, rs.length.symm, h2⟩, fun x H'' yy => ?_⟩
    obtain ⟨T, z, o, rfl, hT, ho, rfl, hz⟩ := yy
    have := hz _ h.sq
    rw [h2] at this
    cases this
    exact ⟨Kp.new s hT, s.new hT, VD.newT s hT ho (.cons (.int _) (.cons h3 .nil))⟩
theorem i_enum (W : Wf X G) {elts : List Expr} {kk : Nat} {tpos : Pos} {a : Expr} {p pos : Pos} {ga : EvA} (ha : PA X [a] (tA G E ga)) (hm : X.mg "enumerate" = none) (hg : Gl X "enumerate" := by rfl) (hs : starEach [a] X.env = [(false, eval a X.env)] := by rfl) :
    PI X (.Tuple elts kk tpos) (.Call (.Name "enumerate" p) [a] [] pos) (tI G E (iEnum ga)) := by
  have h := pi_enumT (X := X) (elts := elts) (kk := kk) (tpos := tpos) (p := p) (pos := pos) hg hm ha hs
  rw [W.K] at h
  refine PI.weak h fun σ H R ⟨F, ρ, m, S, hE, hS, h⟩ => tAI_bind hE hS h fun ds S1 vs H1 m1 k1 e1 s1 r1 h1 => ?_
  revert h1
  simp only
  split
  · intro h1
    cases r1 with
    | cons r1 r2 =>
      cases r2
      cases r1 with
      | tup hx rs =>
        refine ⟨_, _, rfl, hx.sq, ?_⟩
        rw [← rs.length]
        exact RunI.here h1 s1 (wk_enumT (.tup hx rs))
  · intro h1; exact h1.elim
end
end Pd
end
section
/-! Pd, part G: defs and their calls. -/
namespace Pd
open PySem PySem.Spec PyProof.Rows L2

/-! ### equality of data, as it is written down -/
mutual
def D.beq : D → D → Bool
  | .non, .non => true
  | .bl a, .bl b => a == b
  | .int a, .int b => a == b
  | .str a, .str b => a == b
  | .tup a, .tup b => D.beqs a b
  | .lst a, .lst b => D.beqs a b
  | .scr a, .scr b => D.beqs a b
  | .ins c a, .ins d b => c == d && D.beqf a b
  | .ref a, .ref b => a == b
  | .dct a, .dct b => D.beqk a b
  | .ext c a, .ext d b => c == d && D.beqs a b
  | .cl a, .cl b => a == b
  | .exn c a, .exn d b => c == d && D.beqf a b
  | _, _ => false
termination_by structural d => d
def D.beqs : List D → List D → Bool
  | [], [] => true
  | a :: r, b :: s => D.beq a b && D.beqs r s
  | _, _ => false
termination_by structural d => d
def D.beqf : List (Nat × D) → List (Nat × D) → Bool
  | [], [] => true
  | (i, a) :: r, (j, b) :: s => i == j && D.beq a b && D.beqf r s
  | _, _ => false
termination_by structural d => d
def D.beqk : List (Key × D) → List (Key × D) → Bool
  | [], [] => true
  | (i, a) :: r, (j, b) :: s => decide (i = j) && D.beq a b && D.beqk r s
  | _, _ => false
termination_by structural d => d
end
mutual
theorem D.beq_refl : ∀ d : D, D.beq d d = true
  | .non => rfl
  | .bl a => by simp [D.beq]
  | .int a => by simp [D.beq]
  | .str a => by simp [D.beq]
  | .tup a => by simp only [D.beq]; exact D.beqs_refl a
  | .lst a => by simp only [D.beq]; exact D.beqs_refl a
  | .scr a => by simp only [D.beq]; exact D.beqs_refl a
  | .ins c a => by simp only [D.beq, D.beqf_refl a]; simp
  | .ref a => by simp [D.beq]
  | .dct a => by simp only [D.beq]; exact D.beqk_refl a
  | .ext c a => by simp only [D.beq, D.beqs_refl a]; simp
  | .cl a => by simp [D.beq]
  | .exn c a => by simp only [D.beq, D.beqf_refl a]; simp
theorem D.beqs_refl : ∀ d : List D, D.beqs d d = true
  | [] => rfl
  | a :: r => by simp only [D.beqs, D.beq_refl a, D.beqs_refl r]; rfl
theorem D.beqf_refl : ∀ d : List (Nat × D), D.beqf d d = true
  | [] => rfl
  | (i, a) :: r => by simp only [D.beqf, D.beq_refl a, D.beqf_refl r]; simp
theorem D.beqk_refl : ∀ d : List (Key × D), D.beqk d d = true
  | [] => rfl
  | (i, a) :: r => by simp only [D.beqk, D.beq_refl a, D.beqk_refl r]; simp
end
mutual
theorem D.beq_eq : ∀ {d e : D}, D.beq d e = true → d = e
  | .non, e, h => by cases e <;> first | rfl | cases h
  | .bl a, e, h => by cases e <;> first | (simp only [D.beq] at h; rw [beq_iff_eq.mp h]) | cases h
  | .int a, e, h => by cases e <;> first | (simp only [D.beq] at h; rw [beq_iff_eq.mp h]) | cases h
  | .str a, e, h => by cases e <;> first | (simp only [D.beq] at h; rw [beq_iff_eq.mp h]) | cases h
  | .tup a, e, h => by cases e <;> first | (simp only [D.beq] at h; rw [D.beqs_eq h]) | cases h
  | .lst a, e, h => by cases e <;> first | (simp only [D.beq] at h; rw [D.beqs_eq h]) | cases h
  | .scr a, e, h => by cases e <;> first | (simp only [D.beq] at h; rw [D.beqs_eq h]) | cases h
  | .ins c a, e, h => by cases e <;> first | (simp only [D.beq, Bool.and_eq_true] at h; rw [beq_iff_eq.mp h.1, D.beqf_eq h.2]) | cases h
  | .ref a, e, h => by cases e <;> first | (simp only [D.beq] at h; rw [beq_iff_eq.mp h]) | cases h
  | .dct a, e, h => by cases e <;> first | (simp only [D.beq] at h; rw [D.beqk_eq h]) | cases h
  | .cl a, e, h => by cases e <;> first | (simp only [D.beq] at h; rw [beq_iff_eq.mp h]) | cases h
  | .exn c a, e, h => by cases e <;> first | (simp only [D.beq, Bool.and_eq_true] at h; rw [beq_iff_eq.mp h.1, D.beqf_eq h.2]) | cases h
  | .ext c a, e, h => by cases e <;> first | (simp only [D.beq, Bool.and_eq_true] at h; rw [beq_iff_eq.mp h.1, D.beqs_eq h.2]) | cases h
theorem D.beqs_eq : ∀ {d e : List D}, D.beqs d e = true → d = e
  | [], [], _ => rfl
  | [], _ :: _, h => by cases h
  | _ :: _, [], h => by cases h
  | a :: r, b :: s, h => by
    simp only [D.beqs, Bool.and_eq_true] at h
    rw [D.beq_eq h.1, D.beqs_eq h.2]
theorem D.beqf_eq : ∀ {d e : List (Nat × D)}, D.beqf d e = true → d = e
  | [], [], _ => rfl
  | [], _ :: _, h => by cases h
  | _ :: _, [], h => by cases h
  | (i, a) :: r, (j, b) :: s, h => by
    simp only [D.beqf, Bool.and_eq_true] at h
    rw [beq_iff_eq.mp h.1.1, D.beq_eq h.1.2, D.beqf_eq h.2]
theorem D.beqk_eq : ∀ {d e : List (Key × D)}, D.beqk d e = true → d = e
  | [], [], _ => rfl
  | [], _ :: _, h => by cases h
  | _ :: _, [], h => by cases h
  | (i, a) :: r, (j, b) :: s, h => by
    simp only [D.beqk, Bool.and_eq_true] at h
    rw [of_decide_eq_true h.1.1, D.beq_eq h.1.2, D.beqk_eq h.2]
end
def Cell.beq : Cell → Cell → Bool
  | .dead, .dead => true
  | .lst a, .lst b => D.beqs a b
  | .ins c a, .ins d b => c == d && D.beqf a b
  | .dct a, .dct b => D.beqk a b
  | .tbl a, .tbl b => a == b
  | _, _ => false
theorem Cell.beq_refl (c : Cell) : Cell.beq c c = true := by
  cases c with
  | dead => rfl
  | lst a => exact D.beqs_refl a
  | ins c a => simp only [Cell.beq, D.beqf_refl a]; simp
  | dct a => exact D.beqk_refl a
  | tbl a => simp [Cell.beq]
theorem Cell.beq_eq {c d : Cell} (h : Cell.beq c d = true) : c = d := by
  cases c <;> cases d <;> first | rfl | (cases h; done) | skip
  · simp only [Cell.beq] at h; rw [D.beqs_eq h]
  · simp only [Cell.beq, Bool.and_eq_true] at h; rw [beq_iff_eq.mp h.1, D.beqf_eq h.2]
  · simp only [Cell.beq] at h; rw [D.beqk_eq h]
  · simp only [Cell.beq] at h; rw [beq_iff_eq.mp h]

/-! ### data without cells; what is left of it when the cells from k on are forgotten -/
mutual
def nr (k : Nat) : D → Bool
  | .tup a => nrs k a
  | .lst a => nrs k a
  | .scr a => nrs k a
  | .ins _ a => nrf k a
  | .ref n => decide (n < k)
  | .dct a => nrk k a
  | .ext _ a => nrs k a
  | .exn _ a => nrf k a
  | _ => true
termination_by structural d => d
def nrs (k : Nat) : List D → Bool
  | [] => true
  | a :: r => nr k a && nrs k r
termination_by structural d => d
def nrf (k : Nat) : List (Nat × D) → Bool
  | [] => true
  | (_, a) :: r => nr k a && nrf k r
termination_by structural d => d
def nrk (k : Nat) : List (Key × D) → Bool
  | [] => true
  | (_, a) :: r => nr k a && nrk k r
termination_by structural d => d
end
def nrC (k : Nat) : Cell → Bool
  | .dead => true
  | .lst a => nrs k a
  | .ins _ a => nrf k a
  | .dct a => nrk k a
  | .tbl _ => true
mutual
def fzF (rec : D → Option D) (S : Store) (k : Nat) : D → Option D
  | .tup a => (fzFs rec S k a).map .tup
  | .lst a => (fzFs rec S k a).map .lst
  | .scr a => (fzFs rec S k a).map .scr
  | .ins c a => (fzFf rec S k a).map (.ins c)
  | .ref n => if n < k then some (.ref n) else match S[n]? with
    | some (.lst xs) => (xs.mapM rec).map .lst
    | some (.ins c fs) => (fs.mapM fun p => (rec p.2).map fun d => (p.1, d)).map (.ins c)
    | some (.dct fs) => (fs.mapM fun p => (rec p.2).map fun d => (p.1, d)).map .dct
    | _ => none
  | .dct a => (fzFk rec S k a).map .dct
  | .ext c a => (fzFs rec S k a).map (.ext c)
  | .exn c a => (fzFf rec S k a).map (.exn c)
  | d => some d
termination_by structural d => d
def fzFs (rec : D → Option D) (S : Store) (k : Nat) : List D → Option (List D)
  | [] => some []
  | a :: r => match fzF rec S k a with
    | some d => match fzFs rec S k r with
      | some e => some (d :: e)
      | none => none
    | none => none
termination_by structural d => d
def fzFf (rec : D → Option D) (S : Store) (k : Nat) : List (Nat × D) → Option (List (Nat × D))
  | [] => some []
  | (i, a) :: r => match fzF rec S k a with
    | some d => match fzFf rec S k r with
      | some e => some ((i, d) :: e)
      | none => none
    | none => none
termination_by structural d => d
def fzFk (rec : D → Option D) (S : Store) (k : Nat) : List (Key × D) → Option (List (Key × D))
  | [] => some []
  | (i, a) :: r => match fzF rec S k a with
    | some d => match fzFk rec S k r with
      | some e => some ((i, d) :: e)
      | none => none
    | none => none
termination_by structural d => d
end
def fz (S : Store) (k : Nat) : Nat → D → Option D
  | 0 => fzF (fun _ => none) S k
  | n + 1 => fzF (fz S k n) S k

section
variable {G : Ga} {F : List Addr} {H : Hp} {m L : List Addr} {S : Store} {k : Nat}
mutual
theorem VD.chop {L' : List Addr} (hL : ∀ b, b ∈ L' → b ∈ L) : ∀ {d : D} {v : V}, nr k d = true → VD G H m L d v → VD G H (m.take k) L' d v
  | _, _, _, .non => .non
  | _, _, _, .bl b => .bl b
  | _, _, _, .int i => .int i
  | _, _, _, .str s => .str s
  | _, _, n, .tup hx r => .tup (hx.elim (fun q => .inl ⟨q.1, fun z => q.2 (hL _ z)⟩) .inr) (VDs.chop hL (by simpa only [nr] using n) r)
  | _, _, n, .lst hx q r => .lst hx (fun z => q (hL _ z)) (VDs.chop hL (by simpa only [nr] using n) r)
  | _, _, n, .scr hx r => .scr (hx.elim (fun q => .inl ⟨q.1, fun z => q.2 (hL _ z)⟩) .inr) (VDs.chop hL (by simpa only [nr] using n) r)
  | _, _, n, .ins hc hx q r => .ins hc hx (fun z => q (hL _ z)) (FDs.chop hL (by simpa only [nr] using n) r)
  | _, _, n, .ref q => .ref (by
      simp only [nr] at n
      rw [List.getElem?_take_of_lt (of_decide_eq_true n)]
      exact q)
  | _, _, n, .dct hx q r => .dct hx (fun z => q (hL _ z)) (KDs.chop hL (by simpa only [nr] using n) r)
  | _, _, n, .ext hc hx q r => .ext hc hx (fun z => q (hL _ z)) (VDs.chop hL (by simpa only [nr] using n) r)
  | _, _, _, .cl h => .cl h
  | _, _, n, .exn hx q r => .exn hx (q.less hL) (FDs.chop hL (by simpa only [nr] using n) r)
theorem VDs.chop {L' : List Addr} (hL : ∀ b, b ∈ L' → b ∈ L) : ∀ {d : List D} {v : List V}, nrs k d = true → VDs G H m L d v → VDs G H (m.take k) L' d v
  | _, _, _, .nil => .nil
  | _, _, n, .cons a r => by
    simp only [nrs, Bool.and_eq_true] at n
    exact .cons (VD.chop hL n.1 a) (VDs.chop hL n.2 r)
theorem FDs.chop {L' : List Addr} (hL : ∀ b, b ∈ L' → b ∈ L) : ∀ {d : List (Nat × D)} {v : List (Str × V)}, nrf k d = true → FDs G H m L d v → FDs G H (m.take k) L' d v
  | _, _, _, .nil => .nil
  | _, _, n, .cons hn a r => by
    simp only [nrf, Bool.and_eq_true] at n
    exact .cons hn (VD.chop hL n.1 a) (FDs.chop hL n.2 r)
theorem KDs.chop {L' : List Addr} (hL : ∀ b, b ∈ L' → b ∈ L) : ∀ {d : List (Key × D)} {v : List (Key × V)}, nrk k d = true → KDs G H m L d v → KDs G H (m.take k) L' d v
  | _, _, _, .nil => .nil
  | _, _, n, .cons a r => by
    simp only [nrk, Bool.and_eq_true] at n
    exact .cons (VD.chop hL n.1 a) (KDs.chop hL n.2 r)
end
mutual
theorem nr_of : ∀ {d : D} {v : V}, VD G H m L d v → nr m.length d = true
  | _, _, .non => rfl
  | _, _, .bl b => rfl
  | _, _, .int i => rfl
  | _, _, .str s => rfl
  | _, _, .tup hx r => by simp only [nr]; exact nrs_of r
  | _, _, .lst hx q r => by simp only [nr]; exact nrs_of r
  | _, _, .scr hx r => by simp only [nr]; exact nrs_of r
  | _, _, .ins hc hx q r => by simp only [nr]; exact nrf_of r
  | _, _, .ref q => by simp only [nr]; exact decide_eq_true (List.getElem?_eq_some_iff.mp q).1
  | _, _, .dct hx q r => by simp only [nr]; exact nrk_of r
  | _, _, .ext hc hx q r => by simp only [nr]; exact nrs_of r
  | _, _, .cl h => rfl
  | _, _, .exn hx q r => by simp only [nr]; exact nrf_of r
theorem nrs_of : ∀ {d : List D} {v : List V}, VDs G H m L d v → nrs m.length d = true
  | _, _, .nil => rfl
  | _, _, .cons a r => by simp only [nrs, nr_of a, nrs_of r]; rfl
theorem nrf_of : ∀ {d : List (Nat × D)} {v : List (Str × V)}, FDs G H m L d v → nrf m.length d = true
  | _, _, .nil => rfl
  | _, _, .cons hn a r => by simp only [nrf, nr_of a, nrf_of r]; rfl
theorem nrk_of : ∀ {d : List (Key × D)} {v : List (Key × V)}, KDs G H m L d v → nrk m.length d = true
  | _, _, .nil => rfl
  | _, _, .cons a r => by simp only [nrk, nr_of a, nrk_of r]; rfl
end
theorem CellOk.nr {c : Cell} {a : Addr} (h : CellOk G H m L c a) : nrC m.length c = true := by
  cases c with
  | dead => rfl
  | lst xs => obtain ⟨ys, _, r⟩ := h; exact nrs_of r
  | ins c fs => obtain ⟨_, _, _, _, _, r⟩ := h; exact nrf_of r
  | dct ks => obtain ⟨_, _, r⟩ := h; exact nrk_of r
  | tbl _ => rfl
theorem mapM_some {α β : Type} {f : α → Option β} : ∀ {xs : List α} {ys : List β}, xs.mapM f = some ys → (xs = [] ∧ ys = []) ∨ ∃ x r y s, xs = x :: r ∧ ys = y :: s ∧ f x = some y ∧ r.mapM f = some s
  | [], ys, h => .inl ⟨rfl, by simpa using h.symm⟩
  | x :: r, ys, h => by
    rw [List.mapM_cons] at h
    cases q : f x with
    | none => rw [q] at h; cases h
    | some y =>
      rw [q] at h
      cases q2 : r.mapM f with
      | none => rw [q2] at h; cases h
      | some s =>
        rw [q2] at h
        cases h
        exact .inr ⟨x, r, y, s, rfl, rfl, q, q2⟩
variable {L' : List Addr}
theorem mapM_vds {rec : D → Option D} (hr : ∀ d v d', VD G H m L d v → rec d = some d' → VD G H (m.take k) L' d' v) : ∀ {xs : List D} {ys : List V} {zs : List D}, VDs G H m L xs ys → xs.mapM rec = some zs → VDs G H (m.take k) L' zs ys
  | _, _, zs, .nil, h => by
    have e : zs = [] := by simpa using h.symm
    subst e
    exact .nil
  | _, _, zs, .cons r t, h => by
    rcases mapM_some h with ⟨e, _⟩ | ⟨x, r', y, s, e, rfl, h1, h2⟩
    · cases e
    · cases e
      exact .cons (hr _ _ _ r h1) (mapM_vds hr t h2)
theorem mapM_fds {rec : D → Option D} (hr : ∀ d v d', VD G H m L d v → rec d = some d' → VD G H (m.take k) L' d' v) : ∀ {xs : List (Nat × D)} {ys : List (Str × V)} {zs : List (Nat × D)}, FDs G H m L xs ys → (xs.mapM fun p => (rec p.2).map fun d => (p.1, d)) = some zs → FDs G H (m.take k) L' zs ys
  | _, _, zs, .nil, h => by
    have e : zs = [] := by simpa using h.symm
    subst e
    exact .nil
  | _, _, zs, .cons hn r t, h => by
    rcases mapM_some h with ⟨e, _⟩ | ⟨x, r', y, s, e, rfl, h1, h2⟩
    · cases e
    · cases e
      obtain ⟨d, h3, rfl⟩ := Option.map_eq_some_iff.mp h1
      exact .cons hn (hr _ _ _ r h3) (mapM_fds hr t h2)
theorem mapM_kds {rec : D → Option D} (hr : ∀ d v d', VD G H m L d v → rec d = some d' → VD G H (m.take k) L' d' v) : ∀ {xs : List (Key × D)} {ys : List (Key × V)} {zs : List (Key × D)}, KDs G H m L xs ys → (xs.mapM fun p => (rec p.2).map fun d => (p.1, d)) = some zs → KDs G H (m.take k) L' zs ys
  | _, _, zs, .nil, h => by
    have e : zs = [] := by simpa using h.symm
    subst e
    exact .nil
  | _, _, zs, .cons r t, h => by
    rcases mapM_some h with ⟨e, _⟩ | ⟨x, r', y, s, e, rfl, h1, h2⟩
    · cases e
    · cases e
      obtain ⟨d, h3, rfl⟩ := Option.map_eq_some_iff.mp h1
      exact .cons (hr _ _ _ r h3) (mapM_kds hr t h2)
mutual
theorem fzF_ok {rec : D → Option D} (s : SR G F H m S) (hL : ∀ b, b ∈ L' → b ∈ L) (hK : ∀ (n : Nat) a, k ≤ n → m[n]? = some a → a ∉ L') (hr : ∀ d v d', VD G H m (lw F m S) d v → rec d = some d' → VD G H (m.take k) L' d' v) (hLw : L = lw F m S) : ∀ {d : D} {v : V} {d' : D}, VD G H m L d v → fzF rec S k d = some d' → VD G H (m.take k) L' d' v
  | _, _, _, .non, h => by simp only [fzF, Option.some.injEq] at h; subst h; exact .non
  | _, _, _, .bl b, h => by simp only [fzF, Option.some.injEq] at h; subst h; exact .bl b
  | _, _, _, .int i, h => by simp only [fzF, Option.some.injEq] at h; subst h; exact .int i
  | _, _, _, .str x, h => by simp only [fzF, Option.some.injEq] at h; subst h; exact .str x
  | _, _, _, .tup hx r, h => by
    simp only [fzF] at h
    obtain ⟨ds, h1, rfl⟩ := Option.map_eq_some_iff.mp h
    exact .tup (hx.elim (fun q => .inl ⟨q.1, fun z => q.2 (hL _ z)⟩) .inr) (fzFs_ok s hL hK hr hLw r h1)
  | _, _, _, .lst hx q r, h => by
    simp only [fzF] at h
    obtain ⟨ds, h1, rfl⟩ := Option.map_eq_some_iff.mp h
    exact .lst hx (fun z => q (hL _ z)) (fzFs_ok s hL hK hr hLw r h1)
  | _, _, _, .scr hx r, h => by
    simp only [fzF] at h
    obtain ⟨ds, h1, rfl⟩ := Option.map_eq_some_iff.mp h
    exact .scr (hx.elim (fun q => .inl ⟨q.1, fun z => q.2 (hL _ z)⟩) .inr) (fzFs_ok s hL hK hr hLw r h1)
  | _, _, _, .ins hc hx q r, h => by
    simp only [fzF] at h
    obtain ⟨ds, h1, rfl⟩ := Option.map_eq_some_iff.mp h
    exact .ins hc hx (fun z => q (hL _ z)) (fzFf_ok s hL hK hr hLw r h1)
  | _, _, d', .ref (n := n) (a := a) hn, h => by
    simp only [fzF] at h
    split at h
    · rename_i hlt
      cases h
      exact .ref (by rw [List.getElem?_take_of_lt hlt]; exact hn)
    · rename_i hge
      have na : a ∉ L' := hK n a (Nat.le_of_not_lt hge) hn
      split at h
      · rename_i xs e
        obtain ⟨ds, h1, rfl⟩ := Option.map_eq_some_iff.mp h
        obtain ⟨ys, h2, h3⟩ := s.list e hn
        exact .lst h2 na (mapM_vds hr h3 h1)
      · rename_i c fs e
        obtain ⟨ds, h1, rfl⟩ := Option.map_eq_some_iff.mp h
        obtain ⟨C, dx, gs, hc, h2, h3⟩ := s.cell n _ a e hn
        exact .ins hc h2 na (mapM_fds hr h3 h1)
      · rename_i fs e
        obtain ⟨ds, h1, rfl⟩ := Option.map_eq_some_iff.mp h
        obtain ⟨gs, h2, h3⟩ := s.cell n _ a e hn
        exact .dct h2 na (mapM_kds hr h3 h1)
      · cases h
  | _, _, _, .dct hx q r, h => by
    simp only [fzF] at h
    obtain ⟨ds, h1, rfl⟩ := Option.map_eq_some_iff.mp h
    exact .dct hx (fun z => q (hL _ z)) (fzFk_ok s hL hK hr hLw r h1)
  | _, _, _, .ext hc hx q r, h => by
    simp only [fzF] at h
    obtain ⟨ds, h1, rfl⟩ := Option.map_eq_some_iff.mp h
    exact .ext hc hx (fun z => q (hL _ z)) (fzFs_ok s hL hK hr hLw r h1)
  | _, _, _, .cl hc, h => by simp only [fzF, Option.some.injEq] at h; subst h; exact .cl hc
  | _, _, _, .exn hx q r, h => by
    simp only [fzF] at h
    obtain ⟨ds, h1, rfl⟩ := Option.map_eq_some_iff.mp h
    exact .exn hx (q.less hL) (fzFf_ok s hL hK hr hLw r h1)
theorem fzFs_ok {rec : D → Option D} (s : SR G F H m S) (hL : ∀ b, b ∈ L' → b ∈ L) (hK : ∀ (n : Nat) a, k ≤ n → m[n]? = some a → a ∉ L') (hr : ∀ d v d', VD G H m (lw F m S) d v → rec d = some d' → VD G H (m.take k) L' d' v) (hLw : L = lw F m S) : ∀ {d : List D} {v : List V} {d' : List D}, VDs G H m L d v → fzFs rec S k d = some d' → VDs G H (m.take k) L' d' v
  | _, _, _, .nil, h => by simp only [fzFs, Option.some.injEq] at h; subst h; exact .nil
  | _, _, _, .cons (d := d) (ds := ds) a r, h => by
    simp only [fzFs] at h
    cases q : fzF rec S k d with
    | none => simp [q] at h
    | some p1 =>
      simp only [q] at h
      cases q2 : fzFs rec S k ds with
      | none => simp [q2] at h
      | some p2 =>
        simp only [q2] at h
        cases h
        exact .cons (fzF_ok s hL hK hr hLw a q) (fzFs_ok s hL hK hr hLw r q2)
theorem fzFf_ok {rec : D → Option D} (s : SR G F H m S) (hL : ∀ b, b ∈ L' → b ∈ L) (hK : ∀ (n : Nat) a, k ≤ n → m[n]? = some a → a ∉ L') (hr : ∀ d v d', VD G H m (lw F m S) d v → rec d = some d' → VD G H (m.take k) L' d' v) (hLw : L = lw F m S) : ∀ {d : List (Nat × D)} {v : List (Str × V)} {d' : List (Nat × D)}, FDs G H m L d v → fzFf rec S k d = some d' → FDs G H (m.take k) L' d' v
  | _, _, _, .nil, h => by simp only [fzFf, Option.some.injEq] at h; subst h; exact .nil
  | _, _, _, .cons (d := d) (ds := ds) hn a r, h => by
    simp only [fzFf] at h
    cases q : fzF rec S k d with
    | none => simp [q] at h
    | some p1 =>
      simp only [q] at h
      cases q2 : fzFf rec S k ds with
      | none => simp [q2] at h
      | some p2 =>
        simp only [q2] at h
        cases h
        exact .cons hn (fzF_ok s hL hK hr hLw a q) (fzFf_ok s hL hK hr hLw r q2)
theorem fzFk_ok {rec : D → Option D} (s : SR G F H m S) (hL : ∀ b, b ∈ L' → b ∈ L) (hK : ∀ (n : Nat) a, k ≤ n → m[n]? = some a → a ∉ L') (hr : ∀ d v d', VD G H m (lw F m S) d v → rec d = some d' → VD G H (m.take k) L' d' v) (hLw : L = lw F m S) : ∀ {d : List (Key × D)} {v : List (Key × V)} {d' : List (Key × D)}, KDs G H m L d v → fzFk rec S k d = some d' → KDs G H (m.take k) L' d' v
  | _, _, _, .nil, h => by simp only [fzFk, Option.some.injEq] at h; subst h; exact .nil
  | _, _, _, .cons (d := d) (ds := ds) a r, h => by
    simp only [fzFk] at h
    cases q : fzF rec S k d with
    | none => simp [q] at h
    | some p1 =>
      simp only [q] at h
      cases q2 : fzFk rec S k ds with
      | none => simp [q2] at h
      | some p2 =>
        simp only [q2] at h
        cases h
        exact .cons (fzF_ok s hL hK hr hLw a q) (fzFk_ok s hL hK hr hLw r q2)
end
theorem fz_ok (s : SR G F H m S) (hL : ∀ b, b ∈ L' → b ∈ lw F m S) (hK : ∀ (n : Nat) a, k ≤ n → m[n]? = some a → a ∉ L') : ∀ (n : Nat) {d : D} {v : V} {d' : D}, VD G H m (lw F m S) d v → fz S k n d = some d' → VD G H (m.take k) L' d' v
  | 0, _, _, _, r, h => fzF_ok s hL hK (fun _ _ _ _ h => by cases h) rfl r h
  | n + 1, _, _, _, r, h => fzF_ok s hL hK (fun _ _ _ r h => fz_ok s hL hK n r h) rfl r h

/-! ### a def is left -/
def oldOk (k : Nat) : Store → Store → Bool
  | [], _ => true
  | c :: r, d :: s => (Cell.beq c d || nrC k d) && oldOk k r s
  | _ :: _, [] => false
def leave (S0 : Store) (d : D) (S1 : Store) : Res (D × Store) :=
  if S1.length = S0.length then .ok (d, S1) else if oldOk S0.length S0 S1 = true then match fz S1 S0.length 6 d with
    | some d' => .ok (d', S1.take S0.length)
    | none => .bad
  else .bad
theorem oldOk_get : ∀ {S0 S1 : Store} {n : Nat} {c : Cell}, oldOk k S0 S1 = true → n < S0.length → S1[n]? = some c → S0[n]? = some c ∨ nrC k c = true
  | [], _, _, _, _, h, _ => by simp at h
  | c0 :: r, [], _, _, h, _, _ => by cases h
  | c0 :: r, c1 :: s, 0, c, h, _, e => by
    simp only [oldOk, Bool.and_eq_true, Bool.or_eq_true] at h
    simp at e
    subst e
    rcases h.1 with q | q
    · exact .inl (by simp [Cell.beq_eq q])
    · exact .inr q
  | c0 :: r, c1 :: s, n + 1, c, h, hn, e => by
    simp only [oldOk, Bool.and_eq_true] at h
    have := oldOk_get h.2 (n := n) (c := c) (by simpa using hn) (by simpa using e)
    simpa using this
theorem take_lv {b : Addr} (h : b ∈ lv (m.take k) (S.take k)) : b ∈ lv m S ∧ b ∈ m.take k := by
  obtain ⟨n, c, h1, h2, h3⟩ := mem_lv.mp h
  have hn : n < k := by
    have := (List.getElem?_eq_some_iff.mp h1).1
    simp at this
    omega
  rw [List.getElem?_take_of_lt hn] at h2
  have h1' : m[n]? = some b := by rw [List.getElem?_take_of_lt hn] at h1; exact h1
  exact ⟨mem_lv.mpr ⟨n, c, h1', h2, h3⟩, List.mem_of_getElem? h1⟩
theorem leave_ok {H0 : Hp} {m0 : List Addr} {S0 S2 : Store} {d d' : D} {v : V} (s0 : SR G F H0 m0 S0) (kk : Kp H0 m0 (lv m0 S0) H m (lv m S)) (s : SR G F H m S) (r : VD G H m (lw F m S) d v) (h : leave S0 d S = .ok (d', S2)) :
    ∃ m2, Kp H0 m0 (lv m0 S0) H m2 (lv m2 S2) ∧ SR G F H m2 S2 ∧ VD G H m2 (lw F m2 S2) d' v := by
  unfold leave at h
  split at h
  · cases h
    exact ⟨m, kk, s, r⟩
  · split at h
    · rename_i hold
      split at h
      · rename_i d2 e
        cases h
        have hlen0 := s0.len
        have hlen := s.len
        have hL : ∀ b, b ∈ lw F (m.take S0.length) (S.take S0.length) → b ∈ lw F m S := fun b z => by
          rcases List.mem_append.mp z with z | z
          · exact List.mem_append_left _ z
          · exact List.mem_append_right _ (take_lv z).1
        have hK : ∀ (n : Nat) a, S0.length ≤ n → m[n]? = some a → a ∉ lw F (m.take S0.length) (S.take S0.length) := fun n a hn ha z => by
          rcases List.mem_append.mp z with z | z
          · exact (s.ftr a z).2 (List.mem_of_getElem? ha)
          · have z2 := (take_lv z).2
            obtain ⟨j, hj⟩ := List.getElem?_of_mem z2
            have hjk : j < S0.length := by
              have := (List.getElem?_eq_some_iff.mp hj).1
              simp at this
              omega
            rw [List.getElem?_take_of_lt hjk] at hj
            obtain ⟨l1, e1⟩ := List.getElem?_eq_some_iff.mp ha
            obtain ⟨l2, e2⟩ := List.getElem?_eq_some_iff.mp hj
            have := (List.getElem_inj s.nd).mp (e1.trans e2.symm)
            omega
        refine ⟨m.take S0.length, ⟨kk.same, fun b z => kk.news b (take_lv z).1, fun n a ha => ?_⟩, ?_, fz_ok s hL hK 6 r e⟩
        · have hn : n < S0.length := by rw [hlen0]; exact (List.getElem?_eq_some_iff.mp ha).1
          rw [List.getElem?_take_of_lt hn]
          exact kk.ext n a ha
        · refine ⟨by rw [List.length_take, List.length_take, hlen], s.nd.sublist (List.take_sublist _ _), fun a ha => s.trk a (List.mem_of_mem_take ha), fun a ha => ⟨(s.ftr a ha).1, fun z => (s.ftr a ha).2 (List.mem_of_mem_take z)⟩, fun n c a h1 h2 => ?_⟩
          have hn : n < S0.length := by
            have := (List.getElem?_eq_some_iff.mp h1).1
            simp at this
            omega
          rw [List.getElem?_take_of_lt hn] at h1 h2
          have ok := s.cell n c a h1 h2
          have hnr : nrC S0.length c = true := by
            rcases oldOk_get hold hn h1 with q | q
            · have hn0 : n < m0.length := by rw [← hlen0]; exact hn
              have e0 : m0[n]? = some m0[n] := List.getElem?_eq_getElem hn0
              have := (s0.cell n c _ q e0).nr
              rw [hlen0]
              exact this
            · exact q
          cases c with
          | dead => trivial
          | lst xs =>
            obtain ⟨ys, g1, g2⟩ := ok
            exact ⟨ys, g1, VDs.chop hL hnr g2⟩
          | ins c fs =>
            obtain ⟨C, dx, gs, g0, g1, g2⟩ := ok
            exact ⟨C, dx, gs, g0, g1, FDs.chop hL hnr g2⟩
          | dct ks =>
            obtain ⟨gs, g1, g2⟩ := ok
            exact ⟨gs, g1, KDs.chop hL hnr g2⟩
          | tbl i =>
            obtain ⟨q, ps, h0, h1, h2, h3⟩ := ok
            exact ⟨q, ps, h0, h1, h2, fun pos cv e => let ⟨c, e1, e2, n⟩ := h3 pos cv e; ⟨c, e1, e2, fun z => n (hL _ z)⟩⟩
      · cases h
    · cases h
end
end Pd
end
section
/-! Pd, part H: defs and their calls. -/
namespace Pd
open PySem PySem.Spec PyProof.Rows L2

abbrev FD := List D → Store → Res (D × Store)
/-- the exception that is handled around a call -/
abbrev Mu := Option (Addr × Obj)
/-- room for a call -/
structure RmA (μ : Mu) (k : Nat) (A : Around) (outer : List Env) (H : Hp) (s : Shared) : Prop where
  rm : L2H.RoomH k A
  calm : μ = none → A.handled = none
  hot : ∀ p, μ = some p → L2H.Hot1 A p ∧ L2H.PinOk outer H s p
/-- .. in a context -/
structure Rm (μ : Mu) (k : Nat) (X : Cx) : Prop where
  rm : L2H.RoomH k X.A
  calm : μ = none → X.A.handled = none
  hot : ∀ p, μ = some p → L2H.Hot1 X.A p ∧ p ∈ X.pn
theorem Rm.mono {μ : Mu} {j k : Nat} {X : Cx} (r : Rm μ k X) (h : j ≤ k) : Rm μ j X := ⟨r.rm.mono h, r.calm, r.hot⟩
theorem RmA.mono {μ : Mu} {j k : Nat} {A : Around} {outer : List Env} {H : Hp} {s : Shared} (r : RmA μ k A outer H s) (h : j ≤ k) : RmA μ j A outer H s := ⟨r.rm.mono h, r.calm, r.hot⟩
theorem RmA.depth {μ : Mu} {k : Nat} {A : Around} {outer : List Env} {H : Hp} {s : Shared} (r : RmA μ k A outer H s) : A.depth < recursionLimit := r.rm.depth
theorem Rm.at {μ : Mu} {k : Nat} {X : Cx} {pins : List (Addr × Obj)} {σ : L2.St} {H : Hp} {s : Shared} (r : Rm μ k X) (I : Inv X pins σ H s) : RmA μ k X.A X.stack H s :=
  ⟨r.rm, r.calm, fun p e => by
    obtain ⟨hot, hp⟩ := r.hot p e
    have q := I.pin p (List.mem_append_left _ hp)
    exact ⟨hot, q.1, q.2.1, fun hm => (List.mem_cons.mp (I.stkSub p.1 hm)).elim q.2.2.1 q.2.2.2.1, q.2.2.2.2⟩⟩
theorem RmA.in1 {μ : Mu} {k : Nat} {A : Around} {outer : List Env} {H : Hp} {s : Shared} (r : RmA μ (k + 1) A outer H s) : RmA μ k A.in1 outer H s :=
  ⟨⟨by have := r.rm.dp; show A.depth + 3 * k + 5 < _; omega, by have := r.rm.un; show A.units + 1 + 16 * k + 200 < _; omega⟩, r.calm, r.hot⟩
theorem RmA.make {μ : Mu} {k : Nat} {A : Around} {outer : List Env} {H : Hp} {s : Shared} (r : RmA μ (k + 1) A outer H s) (C : Addr) (us : List Value) (kw : List (Str × Value)) : RmA μ k (A.under (.builtin "type.__call__" ⟨.ref C :: us, kw⟩)) outer H s :=
  ⟨⟨by have := r.rm.dp; rw [make_depth]; omega, by have := r.rm.un; rw [make_units]; omega⟩, r.calm, r.hot⟩
theorem rm_of {k : Nat} {A : Around} {outer : List Env} {H : Hp} {s : Shared} (r : Room k A) : RmA none k A outer H s := ⟨L2H.roomH_of r, fun _ => r.hd, fun p e => by cases e⟩
/-- a def's promise, where no text of a list is being made around it -/
structure FnG (μ : Mu) (P : Program) (w : World) (K : PySem.W.Frag) (mg : Str → Option Value) (base : Heap) (k : Nat) (f : Addr) (fd : FuncData) (ps : List Str) (sp : Sp) : Prop where
  len : ∀ vs H Q E, sp vs H Q E → vs.length = ps.length
  run : ∀ (A : Around) (outer : List Env) (s : Shared) (H : Hp) (args : Args) (us : List Value) (vs : List V) (Q : VK) (E : XK), A.guards = some [] → RmA μ k A outer H s → Env0 P w K mg base A outer s H → BindsTo s fd args (ps.zip us) → Vals vs us → sp vs H Q E →
    codeAny (model P w) A (.call (.ref f) args) (CR (L2N.CX P w) outer P w H s Q E) s
/-- .. by data -/
def spD (G : Ga) (n : Nat) (f : FD) : Sp := fun vs H Q E => vs.length = n ∧ ∃ F ds m S, VDs G H m (lw F m S) ds vs ∧ SR G F H m S ∧ RunE G E F (f ds S) H m (lv m S) Q
def startD (n : Nat) (ds : List D) : Slots := ds.map some ++ List.replicate (n - ds.length) none
def leaveX (S0 : Store) (x : Exc) (S1 : Store) : Res (D × Store) :=
  if S1.length = S0.length then .exc x S1 else if (oldOk S0.length S0 S1 && nrf S0.length x.fs) = true then .exc x (S1.take S0.length) else .bad
/-- what a def does with data, by its body -/
def fnD (n : Nat) (body : EvS) : FD := fun ds S => match body (startD n ds) S with
  | .rt d S1 => leave S d S1
  | .nx _ S1 => leave S .non S1
  | .exc x S1 => leaveX S x S1
  | _ => .bad
section
variable {G : Ga} {F : List Addr} {H : Hp} {m : List Addr}
theorem start_env {L : List Addr} {ds : List D} {vs : List V} (r : VDs G H m L ds vs) (N : List Str) : EnvR G H m L (startD N.length ds) (L2.start N vs) := by
  refine ⟨by simp [startD, L2.start, r.length], fun i d e => ?_⟩
  unfold startD at e
  unfold L2.start
  by_cases q : i < ds.length
  · rw [List.getElem?_append_left (by simpa using q), List.getElem?_map] at e
    obtain ⟨d', h1, h2⟩ := Option.map_eq_some_iff.mp e
    cases h2
    obtain ⟨v, h3, h4⟩ := r.get h1
    exact ⟨v, by rw [List.getElem?_append_left (by rw [List.length_map, ← r.length]; exact q), List.getElem?_map, h3]; rfl, h4⟩
  · rw [List.getElem?_append_right (by simpa using q)] at e
    have := List.mem_of_getElem? e
    have := List.eq_of_mem_replicate this
    cases this
theorem leaveX_ok {E : XK} {Q : VK} {H0 : Hp} {m0 : List Addr} {S S0 : Store} {x : Exc} {cls : Value} {dd : Option Addr} (s0 : SR G F H0 m0 S0) (kk : Kp H0 m0 (lv m0 S0) H m (lv m S)) (s : SR G F H m S) (r : XD G H m (lw F m S) x cls dd) (h : RunE G E F (leaveX S0 x S) H0 m0 (lv m0 S0) Q) : E cls dd H := by
  unfold leaveX at h
  split at h
  · exact h cls dd H m kk s r
  · split at h
    · rename_i hne c
      have c' := Bool.and_eq_true_iff.mp c
      have z : leave S0 .non S = .ok (.non, S.take S0.length) := by
        unfold leave
        rw [if_neg hne, if_pos c'.1]
        rfl
      obtain ⟨m2, k2, s2, _⟩ := leave_ok s0 kk s .non z
      have e2 : m2 = m.take S0.length := by
        have h1 : m2.length = S0.length := by
          have := s2.len
          rw [List.length_take] at this
          have := s.len
          have h3 : S0.length = m0.length := s0.len
          have h4 : m0.length ≤ m.length := by
            rcases Nat.lt_or_ge m.length m0.length with q | q
            · have := kk.ext m.length m0[m.length] (List.getElem?_eq_getElem q)
              have := (List.getElem?_eq_some_iff.mp this).1
              omega
            · exact q
          omega
        apply List.ext_getElem?
        intro i
        rcases Nat.lt_or_ge i m0.length with q | q
        · rw [k2.ext i m0[i] (List.getElem?_eq_getElem q), List.getElem?_take_of_lt (by rw [s0.len]; exact q), kk.ext i m0[i] (List.getElem?_eq_getElem q)]
        · rw [List.getElem?_eq_none (by rw [h1, s0.len]; exact q), List.getElem?_eq_none (by rw [List.length_take, s0.len]; omega)]
      refine h cls dd H m2 k2 s2 ?_
      subst e2
      obtain ⟨C, gs, h1, h2, h3, r⟩ := r
      have hL : ∀ b, b ∈ lw F (m.take S0.length) (S.take S0.length) → b ∈ lw F m S := fun b z => by
        rcases List.mem_append.mp z with z | z
        · exact List.mem_append_left _ z
        · exact List.mem_append_right _ (take_lv z).1
      exact ⟨C, gs, h1, h2, h3.less hL, FDs.chop hL c'.2 r⟩
    · exact h.elim
/-- a body's reading, from a def's -/
theorem body_of {E : XK} {N : List Str} {n : Nat} {body : EvS} {vs : List V} {Q : VK} (h : spD G n (fnD N.length body) vs H Q E) : tS G E body { nx := fun _ H' => Q .non H', rt := Q } (L2.start N vs) H := by
  obtain ⟨_, F, ds, m, S, r, s, h⟩ := h
  refine ⟨F, startD N.length ds, m, S, start_env r N, s, ?_⟩
  unfold fnD at h
  cases q : body (startD N.length ds) S with
  | nx ρ1 S1 =>
    simp only [q] at h
    intro σ' H' m' k s' e
    cases q2 : leave S .non S1 with
    | ok p =>
      obtain ⟨d', S2⟩ := p
      rw [q2] at h
      obtain ⟨m2, k2, s2, r2⟩ := leave_ok s k s' .non q2
      exact h _ _ m2 k2 s2 r2
    | exc x S2 =>
      unfold leave at q2
      split at q2
      · cases q2
      · split at q2
        · split at q2 <;> cases q2
        · cases q2
    | bad => rw [q2] at h; exact h.elim
  | rt d S1 =>
    simp only [q] at h
    intro v H' m' k s' rv
    cases q2 : leave S d S1 with
    | ok p =>
      obtain ⟨d', S2⟩ := p
      rw [q2] at h
      obtain ⟨m2, k2, s2, r2⟩ := leave_ok s k s' rv q2
      exact h _ _ m2 k2 s2 r2
    | exc x S2 =>
      unfold leave at q2
      split at q2
      · cases q2
      · split at q2
        · split at q2 <;> cases q2
        · cases q2
    | bad => rw [q2] at h; exact h.elim
  | exc x S1 =>
    simp only [q] at h
    exact fun cls dd H' m' k s' r' => leaveX_ok s k s' r' h
  | bk ρ1 S1 => simp only [q] at h; exact h.elim
  | ct ρ1 S1 => simp only [q] at h; exact h.elim
  | bad => simp only [q] at h; exact h.elim
end

/-- the context in which a body's derivation stands -/
structure Bd (μ : Mu) (X : Cx) (E : XK) : Prop where
  ps : Passes (L2N.CX X.prog X.w) X E
  own : PassesOwn (model X.prog X.w) X.A X.env X.xe
  calm : μ = none → X.calm = true
  tk : L2N.Takes X fun c d _ H => E c d H
theorem passE0 {X : Cx} : Passes (L2N.CX X.prog X.w) X E0 := fun _ _ _ _ _ _ _ c => by
  obtain ⟨_, _, _, _, _, _, _, _, _, _, _, _, z⟩ := c
  exact z.elim

section
variable {P : Program} {w : World} {K : PySem.W.Frag} {mg : Str → Option Value} {base : Heap} {G : Ga}
theorem FnG.mono {μ : Mu} {j k : Nat} {f : Addr} {fd : FuncData} {ps : List Str} {sp : Sp} (h : FnG μ P w K mg base j f fd ps sp) (hjk : j ≤ k) : FnG μ P w K mg base k f fd ps sp :=
  ⟨h.len, fun A outer s H args us vs Q E hg hr => h.run A outer s H args us vs Q E hg (hr.mono hjk)⟩
end

def Consts (G : Ga) (dds : List D) (dvs : List V) : Prop := ∀ H m L, VDs G H m L dds dvs
theorem consts_nil {G : Ga} : Consts G [] [] := fun _ _ _ => .nil
end Pd
end
section
/-! Pd, part I: how arguments come to parameters; calls of defs, methods, classes; attributes. -/
namespace Pd
open PySem PySem.Spec PyProof.Rows L2

/-- the items at these places -/
def pick {α : Type} (plan : List Nat) (all : List α) : List α := plan.filterMap fun i => all[i]?
theorem pick_vals {all : List V} {us : List Value} (r : Vals all us) : ∀ plan : List Nat, Vals (pick plan all) (pick plan us)
  | [] => .nil
  | i :: pl => by
    have ih := pick_vals r pl
    unfold pick at ih ⊢
    rw [List.filterMap_cons, List.filterMap_cons]
    cases q : all[i]? with
    | none => rw [r.none_of q]; exact ih
    | some v =>
      obtain ⟨u, h1, h2⟩ := r.get q
      rw [h1]
      exact .cons h2 ih
theorem pick_vds {G : Ga} {H : Hp} {m L : List Addr} {all : List D} {vs : List V} (r : VDs G H m L all vs) : ∀ plan : List Nat, VDs G H m L (pick plan all) (pick plan vs)
  | [] => .nil
  | i :: pl => by
    have ih := pick_vds r pl
    unfold pick at ih ⊢
    rw [List.filterMap_cons, List.filterMap_cons]
    cases q : vs[i]? with
    | none =>
      have : all[i]? = none := by
        have := List.getElem?_eq_none_iff.mp q
        exact List.getElem?_eq_none_iff.mpr (by rw [r.length]; exact this)
      rw [this]; exact ih
    | some v =>
      obtain ⟨d, h1, h2⟩ := r.getV q
      rw [h1]
      exact .cons h2 ih
/-- n values and the keywords ks, then the defaults dvs: where each parameter's comes from -/
def BP (K : PySem.W.Frag) (fd : FuncData) (ps : List Str) (n : Nat) (ks : List Str) (dvs : List V) (plan : List Nat) : Prop :=
  ∃ its : List Value, Vals dvs its ∧ ∀ (s : Shared) (us ws : List Value), K.In s.heap → us.length = n → ws.length = ks.length → BindsTo s fd ⟨us, ks.zip ws⟩ (ps.zip (pick plan (us ++ ws ++ its)))
section
variable {K : PySem.W.Frag} {x qual : Str} {params : Arguments} {body : List Stmt} {scope : Scope} {dvs : List V} {f : Addr} {fd : FuncData} {ps : List Str}
theorem bp_none (hF : FunD K x qual params body scope [] [] f fd) (n : Nat) (ks : List Str) (plan : List Nat)
    (h : ∀ (kV doc pm : Value) (an : Option Addr) (cdv ct : Value) (us ws : List Value), us.length = n → ws.length = ks.length → bindArgs (PySem.W.fnOf x qual params body scope .none kV doc pm an cdv ct) ⟨us, ks.zip ws⟩ = pure (ps.zip (pick plan (us ++ ws ++ [])))) : BP K fd ps n ks [] plan := by
  obtain ⟨oc, od, dV, kV, doc, pm, an, cdv, ct, osl, rfl, lk, hcd, hD, hK⟩ := hF.ex
  rcases hD with ⟨_, rfl⟩ | ⟨e, _⟩
  · exact ⟨[], .nil, fun s us ws _ h1 h2 => .of_eq (h kV doc pm an cdv ct us ws h1 h2)⟩
  · exact absurd rfl e
theorem bp_dfl (hF : FunD K x qual params body scope dvs [] f fd) (n : Nat) (ks : List Str) (plan : List Nat) (hd : dvs ≠ [])
    (h : ∀ (T : Addr) (kV doc pm : Value) (an : Option Addr) (cdv ct : Value) (us its ws : List Value), us.length = n → its.length = dvs.length → ws.length = ks.length →
      (∃ k, bindArgs (PySem.W.fnOf x qual params body scope (.ref T) kV doc pm an cdv ct) ⟨us, ks.zip ws⟩ = seqItems? (.ref T) >>= k ∧ k (some its.toArray) = pure (ps.zip (pick plan (us ++ ws ++ its)))) ∨
      bindArgs (PySem.W.fnOf x qual params body scope (.ref T) kV doc pm an cdv ct) ⟨us, ks.zip ws⟩ = pure (ps.zip (pick plan (us ++ ws ++ its)))) : BP K fd ps n ks dvs plan := by
  obtain ⟨oc, od, dV, kV, doc, pm, an, cdv, ct, osl, rfl, lk, hcd, hD, hK⟩ := hF.ex
  rcases hD with ⟨e, _⟩ | ⟨_, T, o, its, m, rfl, lT, oT, rT⟩
  · exact absurd e hd
  · refine ⟨its, rT, fun s us ws inS l1 l2 => ?_⟩
    rcases h T kV doc pm an cdv ct us its ws l1 rT.length.symm l2 with ⟨k, e1, e2⟩ | e1
    · refine BindsTo.of_looks fun M => ?_
      rw [e1]
      exact looks_items inS lT oT (.of_pure e2)
    · exact .of_eq e1
end

section
variable {μ : Mu} {X : Cx} {G : Ga} {E : XK} {k n : Nat} {f C : Addr} {fd : FuncData} {ps ks : List Str} {sp : Sp} {dvs : List V} {plan : List Nat} {x m : Str} {p pos apos : Pos} {e o : Expr} {es : List Expr} {kws : List Keyword} {t tk : TA} {ta : TE}
/-- what is wanted of a callee that runs under A -/
def Back (X : Cx) (pins : List (Addr × Obj)) (σ : L2.St) (Q : VK) (r : Result) (s' : Shared) : Prop := match r with
  | .ok (.ret u) => EP X pins σ Q u s'
  | .ok _ => False
  | .error e => X.xe e s'
theorem run_bp {pins : List (Addr × Obj)} {σ : L2.St} {H : Hp} {s : Shared} {Q : VK} {A : Around} {us ws : List Value} {vs zs : List V} (hF : FnG μ X.prog X.w X.K X.mg X.base k f fd ps sp) (hA : A.guards = some []) (hr : RmA μ k A X.stack H s) (e0 : Env0 X.prog X.w X.K X.mg X.base A X.stack s H) (hb : BP X.K fd ps n ks dvs plan)
    (hx : Passes (L2N.CX X.prog X.w) X E) (I : Inv X pins σ H s) (r : Vals vs us) (rz : Vals zs ws) (l1 : vs.length = n) (l2 : zs.length = ks.length) (h : sp (pick plan (vs ++ zs ++ dvs)) H Q E) : codeAny (model X.prog X.w) A (.call (.ref f) ⟨us, ks.zip ws⟩) (Back X pins σ Q) s := by
  obtain ⟨its, rd, hb⟩ := hb
  have all := pick_vals ((r.append rz).append rd) plan
  refine codeAny_mono (hF.run A X.stack s H ⟨us, ks.zip ws⟩ _ _ Q E hA hr e0 (hb s us ws I.kIn (by rw [← r.length]; exact l1) (by rw [← rz.length]; exact l2)) all h) fun res s' hq => ?_
  cases res with
  | error er => exact hx pins σ H s er s' I hq
  | ok fl => cases fl <;> first | exact I.after hq | exact False.elim hq
theorem run_bp' {pins : List (Addr × Obj)} {σ : L2.St} {H : Hp} {s : Shared} {Q : VK} {us ws : List Value} {vs zs : List V} (hF : FnG μ X.prog X.w X.K X.mg X.base k f fd ps sp) (W : Wf X G) (hr : Rm μ k X) (hb : BP X.K fd ps n ks dvs plan)
    (hx : Passes (L2N.CX X.prog X.w) X E) (I : Inv X pins σ H s) (r : Vals vs us) (rz : Vals zs ws) (l1 : vs.length = n) (l2 : zs.length = ks.length) (h : sp (pick plan (vs ++ zs ++ dvs)) H Q E) : wpAny (model X.prog X.w) X.A (call (.ref f) us (ks.zip ws)) (EP X pins σ Q) X.xe s :=
  wpAny_call (codeAny_mono (run_bp hF W.guards (hr.at I) I.env0 hb hx I r rz l1 l2 h) fun res s' hq => by
    cases res with
    | error er => exact hq
    | ok fl => cases fl <;> first | exact hq | exact False.elim hq)

/-! ### the readings by data -/
def aApp (ga gk : EvA) : EvA := fun ρ S => (ga ρ S).bind fun p => (gk ρ p.2).bind fun q => .ok (p.1 ++ q.1, q.2)
/-- n values, j keywords, the defaults, the plan, so many parameters -/
def eCallP (n j : Nat) (F : FD) (dds : List D) (plan : List Nat) (np : Nat) (ga gk : EvA) : EvE := fun ρ S => (ga ρ S).bind fun p => (gk ρ p.2).bind fun q =>
  if (p.1.length == n && q.1.length == j && (pick plan (p.1 ++ q.1 ++ dds)).length == np) = true then F (pick plan (p.1 ++ q.1 ++ dds)) q.2 else .bad
def tCallP (n j : Nat) (sp : Sp) (dvs : List V) (plan : List Nat) (E : XK) (t tk : TA) : TE := fun σ H Q => t σ H fun vs H1 => tk σ H1 fun zs H2 => vs.length = n ∧ zs.length = j ∧ sp (pick plan (vs ++ zs ++ dvs)) H2 Q E
variable {j np : Nat} {fF : FD} {ga gk : EvA} {dds : List D}
theorem tCallP_of (hc : Consts G dds dvs) {σ : L2.St} {H : Hp} {Q : VK} (h : tX G E (eCallP n j fF dds plan np ga gk) σ H Q) : tCallP n j (spD G np fF) dvs plan E (tA G E ga) (tA G E gk) σ H Q := by
  obtain ⟨F, ρ, m, S, hE, hS, h⟩ := h
  refine tA_bind hE hS h fun as S1 vs H1 m1 q k1 e1 s1 r1 h1 => tA_bind e1 s1 h1 fun zs S2 ws H2 m2 q2 k2 e2 s2 r2 h2 => ?_
  have r3 := pick_vds (((r1.mono k2).append r2).append (hc H2 m2 (lw F m2 S2))) plan
  revert h2
  simp only
  split
  · rename_i c
    simp only [Bool.and_eq_true, beq_iff_eq] at c
    intro h2
    exact ⟨by rw [← r1.length]; exact c.1.1, by rw [← r2.length]; exact c.1.2, by rw [← r3.length]; exact c.2, F, _, m2, S2, r3, s2, h2⟩
  · intro h2; exact h2.elim
/-- keywords' values -/
theorem PK.weak {e : List Keyword} {t t' : TA} (h : PK X e t) (w : ∀ σ H Q, t' σ H Q → t σ H Q) : PK X e t' := ⟨fun pos pins s σ H Q I q => h.run pos pins s σ H Q I (w σ H Q q)⟩
theorem k_nil : PK X [] (tA G E aNil) := PK.weak pk_nil fun σ H Q ⟨F, ρ, m, S, hE, hS, h⟩ => RunA.here h hS .nil
theorem k_cons {nm : Option Str} {kpos : Pos} {fa : EvE} (ha : PE X e (tX G E fa)) (hr : PK X kws (tA G E ga)) : PK X (⟨nm, e, kpos⟩ :: kws) (tA G E (aCons fa ga)) :=
  PK.weak (pk_cons ha hr) fun σ H Q ⟨F, ρ, m, S, hE, hS, h⟩ => tX_bindA hE hS h fun d S1 v H1 m1 _ k1 e1 s1 r1 h1 => tA_bindA e1 s1 h1 fun ds S2 vs H2 m2 _ k2 e2 s2 r2 h2 => RunA.here h2 s2 (.cons (r1.mono k2) r2)

theorem RunA.imp {r : Res (List D × Store)} {F : List Addr} {H : Hp} {m L : List Addr} {Q Q' : List V → Hp → Prop} (h : RunA G E F r H m L Q) (w : ∀ v H, Q v H → Q' v H) : RunA G E F r H m L Q' := by
  cases r with
  | ok a => exact fun v H' m' k s r => w _ _ (h v H' m' k s r)
  | exc x S' => exact h
  | bad => exact h
theorem RunE.imp {r : Res (D × Store)} {F : List Addr} {H : Hp} {m L : List Addr} {Q Q' : VK} (h : RunE G E F r H m L Q) (w : ∀ v H, Q v H → Q' v H) : RunE G E F r H m L Q' := by
  cases r with
  | ok a => exact fun v H' m' k s r => w _ _ (h v H' m' k s r)
  | exc x S' => exact h
  | bad => exact h
theorem tA_imp {σ : L2.St} {H : Hp} {Q Q' : List V → Hp → Prop} (h : tA G E ga σ H Q) (w : ∀ v H, Q v H → Q' v H) : tA G E ga σ H Q' :=
  let ⟨F, ρ, m, S, hE, hS, h⟩ := h; ⟨F, ρ, m, S, hE, hS, h.imp w⟩
theorem tNil_of {σ : L2.St} {H : Hp} {Q : List V → Hp → Prop} (h : tA G E aNil σ H Q) : tNil σ H Q :=
  let ⟨F, ρ, m, S, hE, hS, h⟩ := h; RunA.here h hS .nil

/-! ### classes -/
/-- what the written part says of the classes -/
structure WfC (K : PySem.W.Frag) (G : Ga) : Prop where
  cls : ∀ C ∈ G.cls, Cls K C
  na : ∀ C ∈ G.cls, ∀ x ∈ G.nm, G.xn.contains x = false → NoAttr K C x
theorem make_guards {A : Around} {C : Addr} {us : List Value} {kw : List (Str × Value)} : (A.under (.builtin "type.__call__" ⟨.ref C :: us, kw⟩)).guards = A.guards := by
  first | rfl | (obtain ⟨a, b, c, d, e⟩ := A; cases d <;> simp [Around.under, Code.guards, Code.isGuard, guardIds, pushGuards])
def tMakeP (C : Addr) (n j : Nat) (sp : Sp) (dvs : List V) (plan : List Nat) (E : XK) (t tk : TA) : TE := fun σ H Q => t σ H fun vs H1 => tk σ H1 fun zs H2 => vs.length = n ∧ zs.length = j ∧
  ∀ x dx, H2 x = none → H2 dx = none → dx ≠ x → sp (pick plan (.ref x :: vs ++ zs ++ dvs)) (upd (upd H2 dx (.own x)) x (.ins C dx [])) (fun v H3 => v = .non ∧ Q (.ref x) H3) E
theorem run_mk {pins : List (Addr × Obj)} {σ : L2.St} {H : Hp} {s : Shared} {Q : VK} {us ws : List Value} {vs zs : List V} (M : Mk X.K C f) (hF : FnG μ X.prog X.w X.K X.mg X.base k f fd ps sp) (W : Wf X G) (hr : Rm μ (k + 1) X) (hb : BP X.K fd ps (n + 1) ks dvs plan)
    (hx : Passes (L2N.CX X.prog X.w) X E) (I : Inv X pins σ H s) (r : Vals vs us) (rz : Vals zs ws) (l1 : vs.length = n) (l2 : zs.length = ks.length)
    (h : ∀ x dx, H x = none → H dx = none → dx ≠ x → sp (pick plan (.ref x :: vs ++ zs ++ dvs)) (upd (upd H dx (.own x)) x (.ins C dx [])) (fun v H2 => v = .non ∧ Q (.ref x) H2) E) :
    wpAny (model X.prog X.w) X.A (call (.ref C) us (ks.zip ws)) (EP X pins σ Q) X.xe s := by
  have hq := h (s.heap.objs.size + 1) s.heap.objs.size (I.hok.fresh (Nat.le_succ _)) (I.hok.fresh (Nat.le_refl _)) (Nat.ne_of_lt (Nat.lt_succ_self _))
  have J := Inv.made (C := C) I
  have rs : Vals (V.ref (s.heap.objs.size + 1) :: vs) (Value.ref (s.heap.objs.size + 1) :: us) := .cons rfl r
  refine wpAny_call (make_map (f := f) I.kIn M.makes M.init (beq_iff_eq.mp M.fn) (codeAny_mono (run_bp (us := Value.ref (s.heap.objs.size + 1) :: us) (vs := V.ref (s.heap.objs.size + 1) :: vs) hF (make_guards.trans W.guards) ((hr.at J).make C us (ks.zip ws)) (J.env0.make C us (ks.zip ws)) hb hx J rs rz (congrArg Nat.succ l1) l2 hq) fun res s' hb' => ?_))
  cases res with
  | error er => exact hb'
  | ok fl =>
    cases fl with
    | ret u =>
      obtain ⟨v, H', I3, rv, ev, q3⟩ := hb'
      subst ev
      exact ⟨rv, ⟨V.ref (s.heap.objs.size + 1), H', I3, rfl, q3⟩⟩
    | next => exact False.elim hb'
    | brk => exact False.elim hb'
    | cont => exact False.elim hb'
/-- C(..) by data: an object that nobody changes once it is made -/
def eMakeP (c n j : Nat) (F : FD) (dds : List D) (plan : List Nat) (np : Nat) (ga gk : EvA) : EvE := fun ρ S => (ga ρ S).bind fun p => (gk ρ p.2).bind fun q =>
  let all := pick plan (.ref q.2.length :: p.1 ++ q.1 ++ dds)
  if (p.1.length == n && q.1.length == j && all.length == np) = true then match F all (q.2 ++ [.ins c []]) with
    | .ok (.non, S3) => leave q.2 (.ref q.2.length) S3
    | .exc x S3 => leaveX q.2 x S3
    | _ => .bad
  else .bad
theorem tMakeP_of {c : Nat} (hc' : G.cls[c]? = some C) (hc : Consts G dds dvs) {jj : Nat} {σ : L2.St} {H : Hp} {Q : VK} (h : tX G E (eMakeP c n jj fF dds plan np ga gk) σ H Q) : tMakeP C n jj (spD G np fF) dvs plan E (tA G E ga) (tA G E gk) σ H Q := by
  obtain ⟨F, ρ, m, S, hE, hS, h⟩ := h
  refine tA_bind hE hS h fun as S1 vs H1 m1 q k1 e1 s1 r1 h1 => tA_bind e1 s1 h1 fun zs S2 ws H2 m2 q2 k2 e2 s2 r2 h2 => ?_
  revert h2
  simp only
  split
  · rename_i cc
    simp only [Bool.and_eq_true, beq_iff_eq] at cc
    intro h2
    refine ⟨by rw [← r1.length]; exact cc.1.1, by rw [← r2.length]; exact cc.1.2, fun a dx ha hdx ne => ?_⟩
    -- the dict of the instance, then the instance as a new cell
    have sD := s2.new (o := .own a) hdx
    have kD : Kp H2 m2 (lv m2 S2) (upd H2 dx (.own a)) m2 (lv m2 S2) := Kp.new s2 hdx
    have ha' : upd H2 dx (.own a) a = none := by rw [upd_ne (Ne.symm ne)]; exact ha
    have kP : Kp (upd H2 dx (.own a)) m2 (lv m2 S2) (upd (upd H2 dx (.own a)) a (.ins C dx [])) (m2 ++ [a]) (lv (m2 ++ [a]) (S2 ++ [.ins c []])) := Kp.push sD ha'
    have sP := sD.push (c := .ins c []) (o := .ins C dx []) ha' ⟨C, dx, [], hc', upd_same, .nil⟩
    have kk := kD.trans kP
    have rr : VDs G (upd (upd H2 dx (.own a)) a (.ins C dx [])) (m2 ++ [a]) (lw F (m2 ++ [a]) (S2 ++ [.ins c []])) (.ref S2.length :: as ++ zs ++ dds) (.ref a :: vs ++ ws ++ dvs) :=
      VDs.append (VDs.append (.cons (.ref (by rw [s2.len]; simp)) ((r1.mono k2).mono kk)) (r2.mono kk)) (hc _ _ _)
    have r3 := pick_vds rr plan
    refine ⟨by rw [← r3.length]; exact cc.2, F, _, m2 ++ [a], S2 ++ [.ins c []], r3, sP, ?_⟩
    revert h2
    cases fF (pick plan (.ref S2.length :: as ++ zs ++ dds)) (S2 ++ [.ins c []]) with
    | bad => exact fun h2 => h2
    | exc y S3 => exact fun h2 cls dd H' m' k' s' x' => leaveX_ok s2 (kk.trans k') s' x' h2
    | ok r =>
      obtain ⟨d, S3⟩ := r
      intro h2 v H' m' k' s' rv
      cases rv with
      | non =>
        refine ⟨rfl, ?_⟩
        have ra : VD G H' m' (lw F m' S3) (.ref S2.length) (.ref a) := .ref (k'.ext _ _ (by rw [s2.len]; simp))
        cases q3 : leave S2 (.ref S2.length) S3 with
        | ok p =>
          obtain ⟨d', S4⟩ := p
          simp only [q3] at h2
          obtain ⟨m4, k4, s4, r4⟩ := leave_ok s2 (kk.trans k') s' ra q3
          exact h2 _ _ m4 k4 s4 r4
        | exc x S4 =>
          unfold leave at q3
          split at q3
          · cases q3
          · split at q3
            · split at q3 <;> cases q3
            · cases q3
        | bad => simp only [q3] at h2; exact h2.elim
      | _ => exact h2.elim
  · intro h2; exact h2.elim
end
end Pd
end
section
/-! Pd, part J: names of the module, attributes, properties, methods, class methods. -/
namespace Pd
open PySem PySem.Spec PyProof.Rows L2

/-! ### attributes as pairs -/
def putN (i : Nat) (d : D) : List (Nat × D) → List (Nat × D)
  | [] => [(i, d)]
  | (j, x) :: r => if j = i then (j, d) :: r else (j, x) :: putN i d r
def fldsD (S : Store) : D → Option (Nat × List (Nat × D))
  | .ins c fs => some (c, fs)
  | .ref n => match S[n]? with
    | some (.ins c fs) => some (c, fs)
    | _ => none
  | _ => none
section
variable {G : Ga} {F : List Addr} {H : Hp} {m L : List Addr} {S : Store} {d : D} {v : V}
theorem nm_inj (nd : G.nm.Nodup) {i j : Nat} {x : Str} (h1 : G.nm[i]? = some x) (h2 : G.nm[j]? = some x) : i = j := by
  obtain ⟨l1, e1⟩ := List.getElem?_eq_some_iff.mp h1
  obtain ⟨l2, e2⟩ := List.getElem?_eq_some_iff.mp h2
  exact (List.getElem_inj nd).mp (e1.trans e2.symm)
theorem FDs.put (nd : G.nm.Nodup) {i : Nat} {x : Str} (hx : G.nm[i]? = some x) (r : VD G H m L d v) : ∀ {ds : List (Nat × D)} {vs : List (Str × V)}, FDs G H m L ds vs → FDs G H m L (putN i d ds) (putF x v vs)
  | _, _, .nil => .cons hx r .nil
  | _, _, .cons (i := j) (x := y) hy h t => by
    by_cases q : j = i
    · subst q
      rw [hx] at hy; cases hy
      simp only [putN, putF, if_pos]
      exact .cons hx r t
    · have ne : y ≠ x := fun z => q (by subst z; exact nm_inj nd hy hx)
      simp only [putN, putF, if_neg q, if_neg ne]
      exact .cons hy h (FDs.put nd hx r t)
theorem FDs.len : ∀ {ds : List (Nat × D)} {vs : List (Str × V)}, FDs G H m L ds vs → ds.length = vs.length
  | _, _, .nil => rfl
  | _, _, .cons _ _ r => by rw [List.length_cons, List.length_cons, FDs.len r]
/-- a name that is none of the attributes' -/
theorem FDs.miss {x : Str} (hx : x ∉ G.nm) : ∀ {ds : List (Nat × D)} {vs : List (Str × V)}, FDs G H m L ds vs → vs.lookup x = none
  | _, _, .nil => rfl
  | _, _, .cons (x := y) hy h r => by
    have ne : (x == y) = false := beq_eq_false_iff_ne.mpr fun z => hx (by rw [z]; exact List.mem_of_getElem? hy)
    simp only [List.lookup, ne]
    exact FDs.miss hx r
theorem flds_ok {c : Nat} {fs : List (Nat × D)} (s : SR G F H m S) (r : VD G H m (lw F m S) d v) (h : fldsD S d = some (c, fs)) : ∃ a C dx gs, v = .ref a ∧ G.cls[c]? = some C ∧ H a = some (.ins C dx gs) ∧ FDs G H m (lw F m S) fs gs := by
  cases r with
  | ins hc h1 h2 h3 => cases h; exact ⟨_, _, _, _, rfl, hc, h1, h3⟩
  | ref h1 =>
    rename_i n a
    unfold fldsD at h
    simp only at h
    split at h
    · rename_i e
      cases h
      obtain ⟨C, dx, gs, hc, h2, h3⟩ := s.cell n _ a e h1
      exact ⟨a, C, dx, gs, rfl, hc, h2, h3⟩
    · cases h
  | _ => cases h
end

section
variable {μ : Mu} {X : Cx} {G : Ga} {E : XK} {e o : Expr} {f m x : Str} {pos apos : Pos} {fo fv : EvE}
/-- e.f, an attribute of its own -/
def eFld (i : Nat) (fo : EvE) : EvE := fun ρ S => (fo ρ S).bind fun p => match fldsD p.2 p.1 with
  | some (_, fs) => ofO p.2 (fs.lookup i)
  | none => .bad
theorem x_fld (W : Wf X G) (WC : WfC X.K G) (i : Nat) (ho : PE X o (tX G E fo)) (hn : G.nm[i]? = some f) (hx : G.xn.contains f = false) (hb : attributeBase o f X.env (eval o X.env) = eval o X.env := by rfl) : PE X (.Attribute o f pos) (tX G E (eFld i fo)) :=
  PE.weak (pe_fld ho hb) fun σ H Q ⟨F, ρ, m, S, hE, hS, h⟩ => tX_bind hE hS h fun d S1 v H1 m1 _ k1 e1 s1 r1 h1 => by
    cases q : fldsD S1 d with
    | none => simp only [q] at h1; exact h1.elim
    | some p =>
      obtain ⟨c, fs⟩ := p
      simp only [q] at h1
      obtain ⟨a, C, dx, gs, ev, hc, ha, hf⟩ := flds_ok s1 r1 q
      cases q2 : fs.lookup i with
      | none => rw [q2] at h1; exact h1.elim
      | some z =>
        rw [q2] at h1
        obtain ⟨w, h3, h4⟩ := hf.lookup W.nd hn q2
        exact ⟨a, C, dx, gs, w, ev, ha, WC.cls C (List.mem_of_getElem? hc), WC.na C (List.mem_of_getElem? hc) f (List.mem_of_getElem? hn) hx, h3, RunE.here h1 s1 h4⟩
/-- o.f = e -/
def setFD (S : Store) (o : D) (i : Nat) (d : D) : Option Store := match o with
  | .ref n => match S[n]? with
    | some (.ins c fs) => if fs.length < 1000 then some (S.set n (.ins c (putN i d fs))) else none
    | _ => none
  | _ => none
def sFldD (i : Nat) (fo fv : EvE) : EvS := fun ρ S => (fv ρ S).out fun p => (fo ρ p.2).out fun o => match setFD o.2 o.1 i p.1 with
  | some S' => .nx ρ S'
  | none => .bad
theorem s_fld {pos' : Pos} (W : Wf X G) (WC : WfC X.K G) (i : Nat) (ho : PE X o (tX G E fo)) (hv : PE X e (tX G E fv)) (hn : G.nm[i]? = some f) (hx : G.xn.contains f = false) (hs : swapsWith e (some (.Attribute o f pos')) pos.line X.env = pure false := by rfl) : PS X (.Assign [.Attribute o f pos'] e pos) (tS G E (sFldD i fo fv)) :=
  PS.weak (ps_fld ho hv hs) fun Dn σ H ⟨F, ρ, m, S, hE, hS, h⟩ => tX_out hE hS h fun d S1 v H1 m1 k1 e1 s1 r1 h1 => tX_out e1 s1 h1 fun d2 S2 v2 H2 m2 k2 e2 s2 r2 h2 => by
    cases q : setFD S2 d2 i d with
    | none => simp only [q] at h2; exact h2.elim
    | some S' =>
      simp only [q] at h2
      unfold setFD at q
      split at q
      · rename_i n
        split at q
        · rename_i c fs ec
          split at q
          · rename_i hl
            cases q
            cases r2 with
            | ref ha =>
              rename_i a
              obtain ⟨C, dx, gs, hc, h3, h4⟩ := s2.cell n _ a ec ha
              have kk : Kp H2 m2 (lv m2 S2) (upd H2 a (.ins C dx (putF f v gs))) m2 (lv m2 (S2.set n (.ins c (putN i d fs)))) := Kp.store s2 ec ha rfl rfl
              refine ⟨a, C, dx, gs, rfl, h3, WC.cls C (List.mem_of_getElem? hc), WC.na C (List.mem_of_getElem? hc) f (List.mem_of_getElem? hn) hx, by rw [← h4.len]; exact hl, h2 σ _ m2 kk (SR.store s2 ec ha rfl rfl ?_) (e2.mono kk)⟩
              exact ⟨C, dx, _, hc, upd_same, (h4.mono kk).put W.nd hn ((r1.mono k2).mono kk)⟩
          · cases q
        · cases q
      · cases q

/-! ### names of the module -/
theorem x_con {d : D} {v : V} {u : Value} (hm : X.mg x = some u) (r : RelV v u) (hc : ∀ H m L, VD G H m L d v) (hg : Gl X x := by rfl) (hd : (x == ("__debug__" : Str)) = false := by decide) : PE X (.Name x pos) (tX G E (eC d)) :=
  PE.weak (pe_glob hg hm r hd) fun σ H Q ⟨F, ρ, m, S, hE, hS, h⟩ => RunE.here h hS (hc H m _)

/-! ### properties -/
/-- no exception comes of it -/
def noX (r : Res (D × Store)) : Res (D × Store) := match r with
  | .exc _ _ => .bad
  | r => r
def eProp (c : Nat) (fF : FD) (fo : EvE) : EvE := fun ρ S => (fo ρ S).bind fun p => match fldsD p.2 p.1 with
  | some (c', _) => if c' = c then noX (fF [p.1] p.2) else .bad
  | none => .bad
theorem in1_guards {A : Around} : A.in1.guards = A.guards := rfl
variable {k : Nat} {C p g : Addr} {fd : FuncData} {ps : List Str} {c : Nat} {fF : FD} {sp : Sp} {ta : TE}
def tPropG (C : Addr) (sp : Sp) (ta : TE) : TE := fun σ H Q => ta σ H fun x H1 => ∃ a dx fs, x = .ref a ∧ H1 a = some (.ins C dx fs) ∧ sp [.ref a] H1 Q E0
theorem prop_run {a dx : Addr} {fs : List (Str × V)} {pins : List (Addr × Obj)} {σ : L2.St} {H : Hp} {s : Shared} {Q : VK} {b : Bool} {E' : Value → Shared → Prop} (W : Wf X G) (I : Inv X pins σ H s) (ea : H a = some (.ins C dx fs)) (cl : Cls X.K C) (hp : PropOf X.K C f p g)
    (hF : FnG μ X.prog X.w X.K X.mg X.base k g fd ps sp) (hr : Rm μ (k + 1) X) (hb : BP X.K fd ps 1 [] [] [0]) (h : sp [.ref a] H Q E0) : wpAny (model X.prog X.w) X.A (getAttr (.ref a) f b) (EP X pins σ Q) E' s := by
  obtain ⟨mA, O, _, _, _, _⟩ := ins_get I.hok ea
  obtain ⟨od, J, _⟩ := O.look
  obtain ⟨rest, hrec⟩ := hp.rec_
  have I1 := I.tok (s.toks + 1)
  have hc : (PySem.W.clsIn X.K C).isSome = true := by
    obtain ⟨cd, hc, _⟩ := PySem.W.any_some cl.hd
    rw [hc]
    rfl
  obtain ⟨its, rd, hb⟩ := hb
  cases rd
  refine PySem.W.get_bind I.kIn J (PySem.W.plainGet_of (cl.get f)).1 (PySem.W.findObj_data hc hp.at_ hp.get hp.tak) (PySem.W.plainGet_of (cl.get f)).2 (wpAny_call (PySem.W.prop_get (s := { s with toks := s.toks + 1 }) I.kIn hrec ?_))
  refine codeAny_mono (hF.run X.A.in1 X.stack { s with toks := s.toks + 1 } H ⟨[.ref a], []⟩ [.ref a] [.ref a] Q E0 (in1_guards.trans W.guards) (hr.at I1).in1 I1.env0.in1 (hb _ [.ref a] [] I1.kIn rfl rfl) (.cons rfl .nil) h) fun r s' hq => ?_
  cases r with
  | error er => exact False.elim (passE0 (X := X.nox) pins σ H { s with toks := s.toks + 1 } er s' (I1.wish _) hq)
  | ok fl =>
    cases fl with
    | ret u =>
      obtain ⟨v, H', I3, rv, q3⟩ := I1.after hq
      show wpAny _ _ (handedOut u) _ _ _
      rw [PySem.W.handedOut_of (handed_of rv)]
      exact wpAny_pure ⟨v, H', I3, rv, q3⟩
    | next => exact False.elim hq
    | brk => exact False.elim hq
    | cont => exact False.elim hq
theorem pe_propG (W : Wf X G) (he : PE X o ta) (cl : Cls X.K C) (hp : PropOf X.K C f p g) (hF : FnG μ X.prog X.w X.K X.mg X.base k g fd ps sp) (hr : Rm μ (k + 1) X) (hb : BP X.K fd ps 1 [] [] [0])
    (hab : attributeBase o f X.env (eval o X.env) = eval o X.env := by rfl) : PE X (.Attribute o f pos) (tPropG C sp ta) := by
  refine ⟨fun pins s σ H Q I h => ?_⟩
  refine attr_of hab (thn (he.run pins s σ H _ I h) fun u s1 ⟨x, H1, I1, rx, a, dx, fs, ex, ea, q⟩ => ?_)
  subst ex
  obtain rfl : u = Value.ref a := rx
  exact prop_run W I1 ea cl hp hF hr hb q
theorem x_prop (W : Wf X G) (WC : WfC X.K G) (hC : G.cls[c]? = some C) (hp : PropOf X.K C f p g) (hF : FnG μ X.prog X.w X.K X.mg X.base k g fd ps (spD G 1 fF)) (hr : Rm μ (k + 1) X) (hb : BP X.K fd ps 1 [] [] [0])
    (ho : PE X o (tX G E fo)) (hab : attributeBase o f X.env (eval o X.env) = eval o X.env := by rfl) : PE X (.Attribute o f pos) (tX G E (eProp c fF fo)) :=
  PE.weak (pe_propG W ho (WC.cls C (List.mem_of_getElem? hC)) hp hF hr hb hab) fun σ H Q ⟨F, ρ, m, S, hE, hS, h⟩ => tX_bind hE hS h fun d S1 v H1 m1 _ k1 e1 s1 r1 h1 => by
    cases q : fldsD S1 d with
    | none => simp only [q] at h1; exact h1.elim
    | some z =>
      obtain ⟨c', fs⟩ := z
      simp only [q] at h1
      by_cases hc : c' = c
      · subst hc
        rw [if_pos rfl] at h1
        obtain ⟨a, C', dx, gs, ev, hc', ha, hf⟩ := flds_ok s1 r1 q
        rw [hC] at hc'; cases hc'
        subst ev
        refine ⟨a, dx, gs, rfl, ha, rfl, F, [d], m1, S1, .cons r1 .nil, s1, ?_⟩
        cases q2 : fF [d] S1 with
        | ok y => rw [q2] at h1; exact h1
        | exc y S2 => rw [q2] at h1; exact h1.elim
        | bad => rw [q2] at h1; exact h1.elim
      · rw [if_neg hc] at h1; exact h1.elim
end

/-! ### arguments of a call, whatever is called -/
structure CallA (X : Cx) (pos : Pos) (args : List Expr) (kws : List Keyword) (ks : List Str) (t tk : TA) : Prop where
  run : ∀ (P : Heap → Prop) (pins : List (Addr × Obj)) (s : Shared) (σ : L2.St) (H : Hp) (Q : Value → Shared → Prop) (f : Value) (first : List Value),
    (∀ h, P h → ∃ k, (k = Keeper.frame ∨ k = Keeper.machine ∨ k = Keeper.boundFrame) ∧ PySem.W.Looks (model X.prog X.w) h (keeperOf f) k) → Inv X pins σ H s →
    t σ H (fun vs H1 => tk σ H1 fun zs H2 => ∀ us ws s2, Inv X pins σ H2 s2 → Vals vs us → Vals zs ws → P s2.heap ∧ wpAny (model X.prog X.w) X.A (call f (first ++ us) (ks.zip ws)) Q X.xe s2) →
    wpAny (model X.prog X.w) X.A (callWith pos f first (backTo pos (starEach args X.env)) (backToKw pos (keywordEach kws X.env))) Q X.xe s
section
variable {μ : Mu} {X : Cx} {G : Ga} {E : XK} {pos : Pos} {e : Expr} {es : List Expr} {kws : List Keyword} {ks : List Str} {t tk t' tk' : TA} {ga gk : EvA}
theorem ca_nil0 : CallA X pos [] [] [] tNil tNil := ⟨fun P pins s σ H Q f first hk I h => PySem.W.callWith_of rfl hk (evalArgs_nil3 (h [] [] s I .nil .nil))⟩
theorem ca_pos0 (ha : PA X (e :: es) t) (he : starEach (e :: es) X.env = (false, eval e X.env) :: starEach es X.env := by rfl) (hpl : (backTo pos (starEach es X.env)).any (·.1) = false := by rfl) : CallA X pos (e :: es) [] [] t tNil := ⟨fun P pins s σ H Q f first hk I h => by
  have h2 := ha.run pos pins s σ H _ I h
  rw [he] at h2 ⊢
  exact PySem.W.callWith_of (by show ((false || (backTo pos (starEach es X.env)).any (·.1)) || false) = false; rw [hpl]; rfl) hk (PySem.Calls.evalArgs_plain (thn h2 fun us s1 ⟨vs, H1, I1, r, q⟩ => q us [] s1 I1 r .nil))⟩
theorem ca_kw0 (hkw : PK X kws tk) (hall : (backToKw pos (keywordEach kws X.env)).all (·.1.isSome) = true := by rfl) (hks : (backToKw pos (keywordEach kws X.env)).filterMap (·.1) = ks := by rfl)
    (hpl : ((backTo pos (starEach [] X.env)).any (·.1) || (backToKw pos (keywordEach kws X.env)).any (·.1.isNone)) = false := by rfl) : CallA X pos [] kws ks tNil tk := ⟨fun P pins s σ H Q f first hk I h =>
  PySem.W.callWith_of hpl hk (evalArgs_kw2_nil hall (thn (hkw.run pos pins s σ H _ I h) fun ws s1 ⟨zs, H1, I1, rz, q⟩ => by
    rw [hks]
    exact q [] ws s1 I1 .nil rz))⟩
theorem ca_kw1 (ha : PA X (e :: es) t) (hkw : PK X kws tk) (hall : (backToKw pos (keywordEach kws X.env)).all (·.1.isSome) = true := by rfl) (hks : (backToKw pos (keywordEach kws X.env)).filterMap (·.1) = ks := by rfl)
    (he : starEach (e :: es) X.env = (false, eval e X.env) :: starEach es X.env := by rfl)
    (hpl : ((backTo pos (starEach (e :: es) X.env)).any (·.1) || (backToKw pos (keywordEach kws X.env)).any (·.1.isNone)) = false := by rfl) : CallA X pos (e :: es) kws ks t tk := ⟨fun P pins s σ H Q f first hk I h =>
  PySem.W.callWith_of hpl hk (evalArgs_kw2 hall (thn (ha.run pos pins s σ H _ I h) fun us s1 ⟨vs, H1, I1, r, q⟩ => thn (hkw.run pos pins s1 σ H1 _ I1 q) fun ws s2 ⟨zs, H2, I2, rz, q2⟩ => by
    rw [hks]
    exact q2 us ws s2 I2 r rz) he)⟩
theorem CallA.weak {args : List Expr} (c : CallA X pos args kws ks t tk) (w : ∀ σ H Q, t' σ H Q → t σ H Q) (wk : ∀ σ H Q, tk' σ H Q → tk σ H Q) (mono : ∀ σ H Q Q', t' σ H Q → (∀ v H, Q v H → Q' v H) → t' σ H Q') : CallA X pos args kws ks t' tk' :=
  ⟨fun P pins s σ H Q f first hk I h => c.run P pins s σ H Q f first hk I (w _ _ _ (mono _ _ _ _ h fun v H q => wk _ _ _ q))⟩
abbrev CA (X : Cx) (G : Ga) (E : XK) (pos : Pos) (args : List Expr) (kws : List Keyword) (ks : List Str) (ga gk : EvA) : Prop := CallA X pos args kws ks (tA G E ga) (tA G E gk)
theorem ca_nil : CA X G E pos [] [] [] aNil aNil := ca_nil0.weak (fun _ _ _ h => tNil_of h) (fun _ _ _ h => tNil_of h) fun _ _ _ _ h w => tA_imp h w
theorem ca_pos (ha : PA X (e :: es) (tA G E ga)) (he : starEach (e :: es) X.env = (false, eval e X.env) :: starEach es X.env := by rfl) (hpl : (backTo pos (starEach es X.env)).any (·.1) = false := by rfl) : CA X G E pos (e :: es) [] [] ga aNil := (ca_pos0 ha he hpl).weak (fun _ _ _ h => h) (fun _ _ _ h => tNil_of h) fun _ _ _ _ h w => tA_imp h w
theorem ca_kw (hkw : PK X kws (tA G E gk)) (hall : (backToKw pos (keywordEach kws X.env)).all (·.1.isSome) = true := by rfl) (hks : (backToKw pos (keywordEach kws X.env)).filterMap (·.1) = ks := by rfl)
    (hpl : ((backTo pos (starEach [] X.env)).any (·.1) || (backToKw pos (keywordEach kws X.env)).any (·.1.isNone)) = false := by rfl) : CA X G E pos [] kws ks aNil gk := (ca_kw0 hkw hall hks hpl).weak (fun _ _ _ h => tNil_of h) (fun _ _ _ h => h) fun _ _ _ _ h w => tA_imp h w

/-! ### methods -/
variable {k n : Nat} {C g : Addr} {fd : FuncData} {ps : List Str} {c : Nat} {fF : FD} {sp : Sp} {ta : TE} {o : Expr} {m : Str} {args : List Expr} {apos : Pos} {dvs : List V} {dds : List D} {plan : List Nat} {np : Nat} {fo : EvE}
def tMethP (C : Addr) (m : Str) (n j : Nat) (sp : Sp) (dvs : List V) (plan : List Nat) (E : XK) (ta : TE) (t tk : TA) : TE := fun σ H Q => ta σ H fun x H1 => ∃ a dx fs, x = .ref a ∧ H1 a = some (.ins C dx fs) ∧ fs.lookup m = none ∧
  t σ H1 fun vs H2 => tk σ H2 fun zs H3 => vs.length = n ∧ zs.length = j ∧ sp (pick plan (x :: vs ++ zs ++ dvs)) H3 Q E
theorem pe_methG {pl : Sem Bool} (W : Wf X G) (he : PE X o ta) (hm : Meth X.K C m g) (hF : FnG μ X.prog X.w X.K X.mg X.base k g fd ps sp) (cl : Cls X.K C) (hr : Rm μ k X) (hb : BP X.K fd ps (n + 1) ks dvs plan) (hx : Passes (L2N.CX X.prog X.w) X E) (ca : CallA X pos args kws ks t tk)
    (mono : ∀ σ H Q Q', t σ H Q → (∀ v H, Q v H → Q' v H) → t σ H Q') (monk : ∀ σ H Q Q', tk σ H Q → (∀ v H, Q v H → Q' v H) → tk σ H Q')
    (ht : eval (.Call (.Attribute o m apos) args kws pos) X.env = (do
      let ov ← eval o X.env
      standAt apos.atName
      let (f, first) ← holding [ov] (getMethod ov m pl)
      callWith pos f first (backTo pos (starEach args X.env)) (backToKw pos (keywordEach kws X.env))) := by rfl) :
    PE X (.Call (.Attribute o m apos) args kws pos) (tMethP C m n ks.length sp dvs plan E ta t tk) := by
  refine ⟨fun pins s σ H Q I h => ?_⟩
  refine PySem.W.methodCall_KW (pl := pl) (thn (he.run pins s σ H _ I h) fun u s1 ⟨x, H1, I1, rx, a, dx, fs, ex, ea, l, q⟩ => ?_) ht
  subst ex
  obtain rfl : u = Value.ref a := rx
  refine getmeth_ok I1 ea cl hm l ?_
  refine ca.run X.K.In pins s1 σ H1 _ (.ref g) [.ref a] (PySem.W.keeps_K hm.kp) I1 (mono _ _ _ _ q fun vs H2 q2 => monk _ _ _ _ q2 fun zs H3 ⟨l1, l2, q3⟩ us ws s2 I2 r rz => ⟨I2.kIn, ?_⟩)
  exact run_bp' (us := .ref a :: us) (vs := .ref a :: vs) hF W hr hb hx I2 (.cons rfl r) rz (congrArg Nat.succ l1) l2 q3
/-- o.m(..): the class, the plan, the def -/
def eMethP (c n j : Nat) (F : FD) (dds : List D) (plan : List Nat) (np : Nat) (fo : EvE) (ga gk : EvA) : EvE := fun ρ S => (fo ρ S).bind fun o => match fldsD o.2 o.1 with
  | some (c', _) => if c' = c then (ga ρ o.2).bind fun p => (gk ρ p.2).bind fun q =>
      let all := pick plan (o.1 :: p.1 ++ q.1 ++ dds)
      if (p.1.length == n && q.1.length == j && all.length == np) = true then F all q.2 else .bad
    else .bad
  | none => .bad
theorem x_meth {pl : Sem Bool} (W : Wf X G) (WC : WfC X.K G) (hC : G.cls[c]? = some C) (ho : PE X o (tX G E fo)) (hm : Meth X.K C m g) (hF : FnG μ X.prog X.w X.K X.mg X.base k g fd ps (spD G np fF)) (hr : Rm μ k X) (hb : BP X.K fd ps (n + 1) ks dvs plan) (hc : Consts G dds dvs) (hx : Passes (L2N.CX X.prog X.w) X E)
    (ca : CA X G E pos args kws ks ga gk) (hmn : m ∉ G.nm)
    (ht : eval (.Call (.Attribute o m apos) args kws pos) X.env = (do
      let ov ← eval o X.env
      standAt apos.atName
      let (f, first) ← holding [ov] (getMethod ov m pl)
      callWith pos f first (backTo pos (starEach args X.env)) (backToKw pos (keywordEach kws X.env))) := by rfl) :
    PE X (.Call (.Attribute o m apos) args kws pos) (tX G E (eMethP c n ks.length fF dds plan np fo ga gk)) :=
  PE.weak (pe_methG W ho hm hF (WC.cls C (List.mem_of_getElem? hC)) hr hb hx ca (fun _ _ _ _ h w => tA_imp h w) (fun _ _ _ _ h w => tA_imp h w) ht) fun σ H Q ⟨F, ρ, m', S, hE, hS, h⟩ => tX_bind hE hS h fun d S1 v H1 m1 _ k1 e1 s1 r1 h1 => by
    cases q : fldsD S1 d with
    | none => simp only [q] at h1; exact h1.elim
    | some z =>
      obtain ⟨c', fs⟩ := z
      simp only [q] at h1
      by_cases hcc : c' = c
      · subst hcc
        rw [if_pos rfl] at h1
        obtain ⟨a, C', dx, gs, ev, hc', ha, hf⟩ := flds_ok s1 r1 q
        rw [hC] at hc'; cases hc'
        refine ⟨a, dx, gs, ev, ha, hf.miss hmn, ?_⟩
        refine tA_bind e1 s1 h1 fun as S2 vs H2 m2 q2 k2 e2 s2 r2 h2 => tA_bind e2 s2 h2 fun zs S3 ws H3 m3 q3 k3 e3 s3 r3 h3 => ?_
        have rr := pick_vds (VDs.append (VDs.append (.cons ((r1.mono k2).mono k3) (r2.mono k3)) r3) (hc H3 m3 (lw F m3 S3))) plan
        revert h3
        simp only
        split
        · rename_i cc
          simp only [Bool.and_eq_true, beq_iff_eq] at cc
          intro h3
          exact ⟨by rw [← r2.length]; exact cc.1.1, by rw [← r3.length]; exact cc.1.2, by rw [← rr.length]; exact cc.2, F, _, m3, S3, rr, s3, h3⟩
        · intro h3; exact h3.elim
      · rw [if_neg hcc] at h1; exact h1.elim

/-! ### class methods, read off the class by its name -/
/-- C.m(..): its first parameter is the class -/
def eCmP (c n j : Nat) (F : FD) (dds : List D) (plan : List Nat) (np : Nat) (ga gk : EvA) : EvE := fun ρ S => (ga ρ S).bind fun p => (gk ρ p.2).bind fun q =>
  let all := pick plan (.cl c :: p.1 ++ q.1 ++ dds)
  if (p.1.length == n && q.1.length == j && all.length == np) = true then F all q.2 else .bad
def tCmP (C : Addr) (n j : Nat) (sp : Sp) (dvs : List V) (plan : List Nat) (E : XK) (t tk : TA) : TE := fun σ H Q =>
  t σ H fun vs H2 => tk σ H2 fun zs H3 => vs.length = n ∧ zs.length = j ∧ sp (pick plan (.ref C :: vs ++ zs ++ dvs)) H3 Q E
theorem run_cmG {pins : List (Addr × Obj)} {σ : L2.St} {H : Hp} {s : Shared} {q : Addr} {Q : VK} {us ws : List Value} {vs zs : List V} (hF : FnG μ X.prog X.w X.K X.mg X.base k g fd ps sp) (W : Wf X G) (hr : Rm μ k X) (hb : BP X.K fd ps (n + 1) ks dvs plan) (hx : Passes (L2N.CX X.prog X.w) X E)
    (I : Inv X ((q, PySem.W.methodObj (.ref g) (.ref C)) :: pins) σ H s) (r : Vals vs us) (rz : Vals zs ws) (l1 : vs.length = n) (l2 : zs.length = ks.length) (h : sp (pick plan (.ref C :: vs ++ zs ++ dvs)) H Q E) : wpAny (model X.prog X.w) X.A (call (.ref q) us (ks.zip ws)) (EP X pins σ Q) X.xe s := by
  refine thn (Q := EP X ((q, PySem.W.methodObj (.ref g) (.ref C)) :: pins) σ Q) (wpAny_call (PySem.W.method_call (ClX.pin_at I) ?_)) fun _ _ y => ClX.unpinE y
  refine codeAny_mono (run_bp (us := .ref C :: us) (vs := .ref C :: vs) hF W.guards (hr.at I) I.env0 hb hx I (.cons rfl r) rz (congrArg Nat.succ l1) l2 h) fun res s' hq => ?_
  cases res with
  | error er => exact hq
  | ok fl => cases fl <;> first | exact hq | exact False.elim hq
theorem pe_cmG {mc : Value} {p : Addr} {pl : Sem Bool} (W : Wf X G) (he : PE X o ta) (r : ClX.CRead X.K C mc) (cm : ClX.CMet X.K C mc m p g) (hF : FnG μ X.prog X.w X.K X.mg X.base k g fd ps sp) (hr : Rm μ k X) (hb : BP X.K fd ps (n + 1) ks dvs plan) (hx : Passes (L2N.CX X.prog X.w) X E) (ca : CallA X pos args kws ks t tk)
    (mono : ∀ σ H Q Q', t σ H Q → (∀ v H, Q v H → Q' v H) → t σ H Q') (monk : ∀ σ H Q Q', tk σ H Q → (∀ v H, Q v H → Q' v H) → tk σ H Q')
    (ht : eval (.Call (.Attribute o m apos) args kws pos) X.env = (do
      let ov ← eval o X.env
      standAt apos.atName
      let (f, first) ← holding [ov] (getMethod ov m pl)
      callWith pos f first (backTo pos (starEach args X.env)) (backToKw pos (keywordEach kws X.env))) := by rfl) :
    PE X (.Call (.Attribute o m apos) args kws pos) (fun σ H Q => ta σ H fun x H1 => x = .ref C ∧ tCmP C n ks.length sp dvs plan E t tk σ H1 Q) := by
  refine ⟨fun pins s σ H Q I h => ?_⟩
  refine PySem.W.methodCall_KW (pl := pl) (thn (he.run pins s σ H _ I h) fun u s1 ⟨x, H1, I1, rx, ex, q⟩ => ?_) ht
  subst ex
  obtain rfl : u = Value.ref C := rx
  refine ClX.getmethcm_ok I1 r cm fun s2 I2 => ?_
  refine ca.run (PySem.W.MethP X.K s1.heap.objs.size g (.ref C)) _ s2 σ H1 _ (.ref s1.heap.objs.size) [] (PySem.W.keeps_M cm.fi) I2 (mono _ _ _ _ q fun vs H2 q2 => monk _ _ _ _ q2 fun zs H3 ⟨l1, l2, q3⟩ us ws s3 I3 r rz => ⟨⟨ClX.pin_at I3, I3.kIn⟩, ?_⟩)
  exact run_cmG hF W hr hb hx I3 r rz l1 l2 q3
theorem tCmP_of (hC : G.cls[c]? = some C) (hc : Consts G dds dvs) {jj : Nat} {σ : L2.St} {H : Hp} {Q : VK} (h : tX G E (eCmP c n jj fF dds plan np ga gk) σ H Q) : tCmP C n jj (spD G np fF) dvs plan E (tA G E ga) (tA G E gk) σ H Q := by
  obtain ⟨F, ρ, m, S, hE, hS, h⟩ := h
  refine tA_bind hE hS h fun as S1 vs H1 m1 q k1 e1 s1 r1 h1 => tA_bind e1 s1 h1 fun zs S2 ws H2 m2 q2 k2 e2 s2 r2 h2 => ?_
  have rr := pick_vds (VDs.append (VDs.append (.cons (.cl hC) (r1.mono k2)) r2) (hc H2 m2 (lw F m2 S2))) plan
  revert h2
  simp only
  split
  · rename_i cc
    simp only [Bool.and_eq_true, beq_iff_eq] at cc
    intro h2
    exact ⟨by rw [← r1.length]; exact cc.1.1, by rw [← r2.length]; exact cc.1.2, by rw [← rr.length]; exact cc.2, F, _, m2, S2, rr, s2, h2⟩
  · intro h2; exact h2.elim
theorem x_cm {mc : Value} {p : Addr} {pl : Sem Bool} {x : Str} {px : Pos} (W : Wf X G) (hC : G.cls[c]? = some C) (hm : X.mg x = some (.ref C)) (r : ClX.CRead X.K C mc) (cm : ClX.CMet X.K C mc m p g) (hF : FnG μ X.prog X.w X.K X.mg X.base k g fd ps (spD G np fF)) (hr : Rm μ k X) (hb : BP X.K fd ps (n + 1) ks dvs plan) (hc : Consts G dds dvs) (hx : Passes (L2N.CX X.prog X.w) X E)
    (ca : CA X G E pos args kws ks ga gk) (hg : Gl X x := by rfl) (hdb : (x == ("__debug__" : Str)) = false := by decide)
    (ht : eval (.Call (.Attribute (.Name x px) m apos) args kws pos) X.env = (do
      let ov ← eval (.Name x px) X.env
      standAt apos.atName
      let (f, first) ← holding [ov] (getMethod ov m pl)
      callWith pos f first (backTo pos (starEach args X.env)) (backToKw pos (keywordEach kws X.env))) := by rfl) :
    PE X (.Call (.Attribute (.Name x px) m apos) args kws pos) (tX G E (eCmP c n ks.length fF dds plan np ga gk)) :=
  PE.weak (pe_cmG W (pe_glob (v := .ref C) hg hm rfl hdb) r cm hF hr hb hx ca (fun _ _ _ _ h w => tA_imp h w) (fun _ _ _ _ h w => tA_imp h w) ht) fun σ H Q h => ⟨rfl, tCmP_of hC hc h⟩

/-! ### calls of what a name holds -/
theorem x_fn {x : Str} {px : Pos} {f : Addr} (W : Wf X G) (hm : X.mg x = some (.ref f)) (hk : PySem.W.keepIn X.K (.ref f) = true) (hF : FnG μ X.prog X.w X.K X.mg X.base k f fd ps (spD G np fF)) (hr : Rm μ k X) (hb : BP X.K fd ps n ks dvs plan) (hc : Consts G dds dvs) (hx : Passes (L2N.CX X.prog X.w) X E)
    (ca : CA X G E pos args kws ks ga gk) (hg : Gl X x := by rfl) (hdb : (x == ("__debug__" : Str)) = false := by decide) : PE X (.Call (.Name x px) args kws pos) (tX G E (eCallP n ks.length fF dds plan np ga gk)) :=
  PE.weak (t := tCallP n ks.length (spD G np fF) dvs plan E (tA G E ga) (tA G E gk)) ⟨fun pins s σ H Q I h => wpAny_Call_Name_kw (ld_glob I hg hm (ca.run X.K.In pins s σ H _ (.ref f) [] (PySem.W.keeps_K hk) I (tA_imp h fun vs H1 q => tA_imp q fun zs H2 ⟨l1, l2, q2⟩ us ws s2 I2 r rz => ⟨I2.kIn, run_bp' hF W hr hb hx I2 r rz l1 l2 q2⟩)) hdb)⟩
    fun σ H Q h => tCallP_of hc h
theorem x_mk {x : Str} {px : Pos} {f : Addr} (W : Wf X G) (hC : G.cls[c]? = some C) (hm : X.mg x = some (.ref C)) (M : Mk X.K C f) (hF : FnG μ X.prog X.w X.K X.mg X.base k f fd ps (spD G np fF)) (hr : Rm μ (k + 1) X) (hb : BP X.K fd ps (n + 1) ks dvs plan) (hc : Consts G dds dvs) (hx : Passes (L2N.CX X.prog X.w) X E)
    (ca : CA X G E pos args kws ks ga gk) (hg : Gl X x := by rfl) (hdb : (x == ("__debug__" : Str)) = false := by decide) : PE X (.Call (.Name x px) args kws pos) (tX G E (eMakeP c n ks.length fF dds plan np ga gk)) :=
  PE.weak (t := tMakeP C n ks.length (spD G np fF) dvs plan E (tA G E ga) (tA G E gk)) ⟨fun pins s σ H Q I h => wpAny_Call_Name_kw (ld_glob I hg hm (ca.run X.K.In pins s σ H _ (.ref C) [] (PySem.W.keeps_K M.kp) I (tA_imp h fun vs H1 q => tA_imp q fun zs H2 ⟨l1, l2, q2⟩ us ws s2 I2 r rz => ⟨I2.kIn, run_mk M hF W hr hb hx I2 r rz l1 l2 q2⟩)) hdb)⟩
    fun σ H Q h => tMakeP_of hC hc h
/-- cls(..): the i-th slot holds the class -/
def eMakeL (i c n j : Nat) (F : FD) (dds : List D) (plan : List Nat) (np : Nat) (ga gk : EvA) : EvE := fun ρ S => match ρ[i]? with
  | some (some (.cl c')) => if c' = c then eMakeP c n j F dds plan np ga gk ρ S else .bad
  | _ => .bad
theorem x_mkL {x : Str} {px : Pos} {f : Addr} (i : Nat) (W : Wf X G) (hC : G.cls[c]? = some C) (M : Mk X.K C f) (hF : FnG μ X.prog X.w X.K X.mg X.base k f fd ps (spD G np fF)) (hr : Rm μ (k + 1) X) (hb : BP X.K fd ps (n + 1) ks dvs plan) (hc : Consts G dds dvs) (hx : Passes (L2N.CX X.prog X.w) X E)
    (ca : CA X G E pos args kws ks ga gk) (hN : X.N[i]? = some x := by rfl) (hv : Vis X.env.scope x := by first | exact Or.inl rfl | exact Or.inr (Or.inl rfl) | exact Or.inr (Or.inr rfl)) (hdb : (x == ("__debug__" : Str)) = false := by decide)
    (hcd : (x == ("__classdict__" : Str)) = false := by decide) : PE X (.Call (.Name x px) args kws pos) (tX G E (eMakeL i c n ks.length fF dds plan np ga gk)) :=
  PE.weak (t := fun σ H Q => σ[i]? = some (some (.ref C)) ∧ tMakeP C n ks.length (spD G np fF) dvs plan E (tA G E ga) (tA G E gk) σ H Q) ⟨fun pins s σ H Q I h => wpAny_Call_Name_kw (thn ((pe_var (pos := px) hN hv hdb hcd).run pins s σ H (fun v H1 => v = .ref C ∧ H1 = H) I ⟨.ref C, h.1, rfl, rfl⟩) fun u s1 ⟨v, H1, I1, r1, q1⟩ => by
    obtain ⟨rfl, rfl⟩ := q1
    cases r1
    exact ca.run X.K.In pins s1 σ _ _ (.ref C) [] (PySem.W.keeps_K M.kp) I1 (tA_imp h.2 fun vs H1 q => tA_imp q fun zs H2 ⟨l1, l2, q2⟩ us ws s2 I2 r rz => ⟨I2.kIn, run_mk M hF W hr hb hx I2 r rz l1 l2 q2⟩))⟩
    fun σ H Q ⟨F, ρ, m, S, hE, hS, h⟩ => by
      unfold eMakeL at h
      split at h
      · rename_i c' e
        by_cases hcc : c' = c
        · subst hcc
          rw [if_pos rfl] at h
          obtain ⟨v, h1, h2⟩ := hE.2 i _ e
          cases h2 with
          | cl hC' =>
            rw [hC] at hC'; cases hC'
            exact ⟨h1, tMakeP_of hC hc ⟨F, ρ, m, S, hE, hS, h⟩⟩
        · rw [if_neg hcc] at h; exact h.elim
      · exact h.elim
end
end Pd
end
section
/-! Pd, part K: built-in functions and types that are called. -/
namespace Pd
open PySem PySem.Spec PyProof.Rows L2

abbrev Fb := Store → List D → Option (D × Store)
def ofP : Option (D × Store) → Res (D × Store)
  | some p => .ok p
  | none => .bad
/-- r is asked no more than f says -/
def FnS (G : Ga) (E : XK) (r : List V → Hp → VK → Prop) (f : Fb) : Prop :=
  ∀ (F : List Addr) (S : Store) (H : Hp) (m : List Addr) (ds : List D) (vs : List V) (Q : VK), SR G F H m S → VDs G H m (lw F m S) ds vs → RunE G E F (ofP (f S ds)) H m (lv m S) Q → r vs H Q
/-- a value from values, nothing is laid -/
def f1 (g : D → Option D) : Fb := fun S ds => match ds with
  | [a] => (g a).map fun d => (d, S)
  | _ => none
def f2 (g : D → D → Option D) : Fb := fun S ds => match ds with
  | [a, b] => (g a b).map fun d => (d, S)
  | _ => none
section
variable {X : Cx} {G : Ga} {E : XK} {x : Str} {p pos : Pos} {e : Expr} {es : List Expr} {ga : EvA} {r : List V → Hp → VK → Prop} {f : Fb}
def eCb (f : Fb) (ga : EvA) : EvE := fun ρ S => (ga ρ S).bind fun p => ofP (f p.2 p.1)
theorem tCB_of (hf : FnS G E r f) {σ : L2.St} {H : Hp} {Q : VK} (h : tX G E (eCb f ga) σ H Q) : tCB r (tA G E ga) σ H Q := by
  obtain ⟨F, ρ, m, S, hE, hS, h⟩ := h
  exact tA_bind hE hS h fun as S1 vs H1 m1 q k1 e1 s1 r1 h1 => hf F S1 H1 m1 as vs Q s1 r1 h1
theorem x_cb {id : String} (hc : CallR X (.builtin id) r) (hf : FnS G E r f) (ha : PA X (e :: es) (tA G E ga)) (hm : X.mg x = none) (hg : Gl X x := by rfl) (hv : bootBuiltins x = some (.builtin id) := by rfl) (hn : x ≠ "__name__" := by decide) (hdb : (x == ("__debug__" : Str)) = false := by decide)
    (he : starEach (e :: es) X.env = (false, eval e X.env) :: starEach es X.env := by rfl) (hpl : (backTo pos (starEach es X.env)).any (·.1) = false := by rfl) : PE X (.Call (.Name x p) (e :: es) [] pos) (tX G E (eCb f ga)) :=
  PE.weak (pe_callB hc hg hm hv ha hn hdb he hpl) fun _ _ _ h => tCB_of hf h
theorem x_ct {T : String} (hc : CallR X (.type T) r) (hf : FnS G E r f) (ha : PA X (e :: es) (tA G E ga)) (hm : X.mg x = none) (hg : Gl X x := by rfl) (hv : bootBuiltins x = some (.type T) := by rfl) (hn : x ≠ "__name__" := by decide) (hdb : (x == ("__debug__" : Str)) = false := by decide)
    (he : starEach (e :: es) X.env = (false, eval e X.env) :: starEach es X.env := by rfl) (hpl : (backTo pos (starEach es X.env)).any (·.1) = false := by rfl) : PE X (.Call (.Name x p) (e :: es) [] pos) (tX G E (eCb f ga)) :=
  PE.weak (pe_callTy hc hg hm hv ha hn hdb he hpl) fun _ _ _ h => tCB_of hf h

/-- one argument: what f gives of it, by the value's own sight -/
theorem fnS_1 {g : D → Option D} (h : ∀ (F : List Addr) (S : Store) (H : Hp) (m : List Addr) (a d : D) (v : V) (Q : VK), SR G F H m S → VD G H m (lw F m S) a v → g a = some d → RunE G E F (.ok (d, S)) H m (lv m S) Q → r [v] H Q) : FnS G E r (f1 g) := by
  intro F S H m ds vs Q s rd q
  cases rd with
  | nil => exact q.elim
  | cons r1 r2 =>
    cases r2 with
    | nil =>
      rename_i a v
      simp only [f1] at q
      cases e : g a with
      | none => rw [e] at q; exact q.elim
      | some d => rw [e] at q; exact h F S H m a d v Q s r1 e q
    | cons _ _ => exact q.elim
theorem fnS_2 {g : D → D → Option D} (h : ∀ (F : List Addr) (S : Store) (H : Hp) (m : List Addr) (a b d : D) (v w : V) (Q : VK), SR G F H m S → VD G H m (lw F m S) a v → VD G H m (lw F m S) b w → g a b = some d → RunE G E F (.ok (d, S)) H m (lv m S) Q → r [v, w] H Q) : FnS G E r (f2 g) := by
  intro F S H m ds vs Q s rd q
  cases rd with
  | nil => exact q.elim
  | cons r1 r2 =>
    cases r2 with
    | nil => exact q.elim
    | cons r2 r3 =>
      cases r3 with
      | nil =>
        rename_i a v b w
        simp only [f2] at q
        cases e : g a b with
        | none => rw [e] at q; exact q.elim
        | some d => rw [e] at q; exact h F S H m a b d v w Q s r1 r2 e q
      | cons _ _ => exact q.elim

/-! ### numbers -/
def absD : D → Option D
  | .int i => some (.int (if i < 0 then -i else i))
  | _ => none
theorem f_abs : FnS G E (fun xs H Q => ∃ i, xs = [.int i] ∧ Q (.int (if i < 0 then -i else i)) H) (f1 absD) := fnS_1 fun F S H m a d v Q s r e q => by
  cases r with
  | int i => cases e; exact ⟨i, rfl, RunE.here q s (.int _)⟩
  | _ => cases e
def max2D : D → D → Option D
  | .int i, .int j => some (.int (if j > i then j else i))
  | _, _ => none
def min2D : D → D → Option D
  | .int i, .int j => some (.int (if j < i then j else i))
  | _, _ => none
theorem max2_sh {a b d : D} (e : max2D a b = some d) : ∃ i j, a = .int i ∧ b = .int j ∧ d = .int (if j > i then j else i) := by
  unfold max2D at e
  split at e
  · cases e; exact ⟨_, _, rfl, rfl, rfl⟩
  · cases e
theorem min2_sh {a b d : D} (e : min2D a b = some d) : ∃ i j, a = .int i ∧ b = .int j ∧ d = .int (if j < i then j else i) := by
  unfold min2D at e
  split at e
  · cases e; exact ⟨_, _, rfl, rfl, rfl⟩
  · cases e
theorem f_max2 : FnS G E (fun xs H Q => ∃ i j, xs = [.int i, .int j] ∧ Q (.int (if j > i then j else i)) H) (f2 max2D) := fnS_2 fun F S H m a b d v w Q s r r2 e q => by
  obtain ⟨i, j, rfl, rfl, rfl⟩ := max2_sh e
  cases r; cases r2
  exact ⟨i, j, rfl, RunE.here q s (.int _)⟩
theorem f_min2 : FnS G E (fun xs H Q => ∃ i j, xs = [.int i, .int j] ∧ Q (.int (if j < i then j else i)) H) (f2 min2D) := fnS_2 fun F S H m a b d v w Q s r r2 e q => by
  obtain ⟨i, j, rfl, rfl, rfl⟩ := min2_sh e
  cases r; cases r2
  exact ⟨i, j, rfl, RunE.here q s (.int _)⟩
def toIntD : D → Option D
  | .int i => some (.int i)
  | .bl b => some (.int (if b then 1 else 0))
  | .str a => if a.length ≤ 640 then (PySem.intText? a).map .int else none
  | _ => none
theorem call_intA : CallR X (.type "int") (fun xs H Q => ((∃ i, xs = [.int i] ∧ Q (.int i) H) ∨ ∃ k, xs = [.bl k] ∧ Q (.int (if k then 1 else 0)) H) ∨ ∃ a n, xs = [.str a] ∧ PySem.intText? a = some n ∧ a.length ≤ 640 ∧ Q (.int n) H) := call_int1.or call_int_str
theorem f_int : FnS G E (fun xs H Q => ((∃ i, xs = [.int i] ∧ Q (.int i) H) ∨ ∃ k, xs = [.bl k] ∧ Q (.int (if k then 1 else 0)) H) ∨ ∃ a n, xs = [.str a] ∧ PySem.intText? a = some n ∧ a.length ≤ 640 ∧ Q (.int n) H) (f1 toIntD) := fnS_1 fun F S H m a d v Q s r e q => by
  cases r with
  | int i => cases e; exact .inl (.inl ⟨i, rfl, RunE.here q s (.int _)⟩)
  | bl b => cases e; exact .inl (.inr ⟨b, rfl, RunE.here q s (.int _)⟩)
  | str y =>
    simp only [toIntD] at e
    split at e
    · rename_i hl
      obtain ⟨n, h1, rfl⟩ := Option.map_eq_some_iff.mp e
      exact .inr ⟨y, n, rfl, h1, hl, RunE.here q s (.int _)⟩
    · cases e
  | _ => cases e
/-- str(..) of an int or a text -/
def strD : D → Option D
  | .int i => if i.natAbs.log2 < 1920 then some (.str (toString i)) else none
  | .str a => some (.str a)
  | _ => none
theorem f_str : FnS G E (fun xs H Q => (∃ i, xs = [.int i] ∧ i.natAbs.log2 < 1920 ∧ Q (.str (toString i)) H) ∨ ∃ a, xs = [.str a] ∧ Q (.str a) H) (f1 strD) := fnS_1 fun F S H m a d v Q s r e q => by
  cases r with
  | int i =>
    simp only [strD] at e
    split at e
    · rename_i hl
      cases e
      exact .inl ⟨i, rfl, hl, RunE.here q s (.str _)⟩
    · cases e
  | str y => cases e; exact .inr ⟨y, rfl, RunE.here q s (.str _)⟩
  | _ => cases e
def divmodD : D → D → Option D
  | .int i, .int j => if 0 < j ∧ j < 1073741824 then some (.tup [.int (i / j), .int (i % j)]) else none
  | _, _ => none
theorem f_divmod : FnS G E (fun xs H Q => ∃ i j, xs = [.int i, .int j] ∧ CDiv i j ∧ NewT [.int (i / j), .int (i % j)] H Q) (f2 divmodD) := fnS_2 fun F S H m a b d v w Q s r r2 e q => by
  unfold divmodD at e
  split at e
  · rename_i i j
    split at e
    · rename_i hl
      cases e
      cases r; cases r2
      exact ⟨i, j, rfl, hl, fun p o hp ho => RunE.made q s hp (VD.newT s hp ho (.cons (.int _) (.cons (.int _) .nil)))⟩
    · cases e
  · cases e

/-! ### what has items -/
/-- the items of a list or tuple -/
def seqA (S : Store) (d : D) : Option (List D) := match d with
  | .tup xs => some xs
  | d => seqL S d
theorem seqA_ok {F : List Addr} {H : Hp} {m : List Addr} {S : Store} {d : D} {v : V} {xs : List D} (s : SR G F H m S) (r : VD G H m (lw F m S) d v) (h : seqA S d = some xs) : ∃ a ys, v = .ref a ∧ (SqL G.K H a ys ∨ SqT G.K H a ys) ∧ VDs G H m (lw F m S) xs ys := by
  by_cases ht : ∃ zs, d = .tup zs
  · obtain ⟨zs, rfl⟩ := ht
    cases h
    cases r with
    | tup h1 h2 => exact ⟨_, _, rfl, .inr h1.sq, h2⟩
  · have h' : seqL S d = some xs := by
      cases d <;> first | exact h | exact absurd ⟨_, rfl⟩ ht
    obtain ⟨a, ys, e, h1, h2⟩ := seqL_ok s r h'
    exact ⟨a, ys, e, .inl h1, h2⟩
def lenF : Fb := fun S ds => match ds with
  | [.str a] => if a.length ≤ sizeLine then some (.int a.length, S) else none
  | [d] => (seqA S d).map fun xs => (.int xs.length, S)
  | _ => none
theorem f_len : FnS G E (fun xs H Q => ∃ x n, xs = [x] ∧ LenV G.K x H n ∧ Q (.int n) H) lenF := by
  intro F S H m ds vs Q s rd q
  unfold lenF at q
  split at q
  · rename_i a
    cases rd with
    | cons r1 r2 =>
      cases r2
      cases r1
      split at q
      · rename_i hl
        exact ⟨_, _, rfl, ⟨hl, rfl⟩, RunE.here q s (.int _)⟩
      · exact q.elim
  · rename_i d hd
    cases rd with
    | cons r1 r2 =>
      cases r2
      cases e : seqA S d with
      | none => rw [e] at q; exact q.elim
      | some xs =>
        rw [e] at q
        obtain ⟨p, ys, rfl, h1, h2⟩ := seqA_ok s r1 e
        refine ⟨_, ys.length, rfl, ?_, ?_⟩
        · rcases h1 with h1 | h1
          · exact .inl ⟨ys, h1, rfl⟩
          · exact .inr ⟨ys, h1, rfl⟩
        · rw [← h2.length]
          exact RunE.here q s (.int _)
  · exact q.elim
/-- list(..), a new list that nobody will change / a new cell -/
def listF : Fb := fun S ds => match ds with
  | [d] => (seqA S d).map fun xs => (.lst xs, S)
  | _ => none
def listC : Fb := fun S ds => match ds with
  | [d] => (seqA S d).map fun xs => (.ref S.length, S ++ [.lst xs])
  | _ => none
theorem f_list : FnS G E (fun xs H Q => ∃ p ys, xs = [.ref p] ∧ (SqL G.K H p ys ∨ SqT G.K H p ys) ∧ ∀ l, H l = none → Q (.ref l) (upd H l (.lst ys))) listF := by
  intro F S H m ds vs Q s rd q
  unfold listF at q
  split at q
  · rename_i d
    cases rd with
    | cons r1 r2 =>
      cases r2
      cases e : seqA S d with
      | none => rw [e] at q; exact q.elim
      | some xs =>
        rw [e] at q
        obtain ⟨p, ys, rfl, h1, h2⟩ := seqA_ok s r1 e
        exact ⟨p, ys, rfl, h1, fun l hl => RunE.made q s hl (VD.newL s hl h2)⟩
  · exact q.elim
theorem f_listC : FnS G E (fun xs H Q => ∃ p ys, xs = [.ref p] ∧ (SqL G.K H p ys ∨ SqT G.K H p ys) ∧ ∀ l, H l = none → Q (.ref l) (upd H l (.lst ys))) listC := by
  intro F S H m ds vs Q s rd q
  unfold listC at q
  split at q
  · rename_i d
    cases rd with
    | cons r1 r2 =>
      cases r2
      cases e : seqA S d with
      | none => rw [e] at q; exact q.elim
      | some xs =>
        rw [e] at q
        obtain ⟨p, ys, rfl, h1, h2⟩ := seqA_ok s r1 e
        exact ⟨p, ys, rfl, h1, fun l hl => RunE.madeC q s hl ⟨ys, upd_same, h2.mono (Kp.push s hl)⟩⟩
  · exact q.elim
def tupleF : Fb := fun S ds => match ds with
  | [d] => (seqA S d).map fun xs => (.tup xs, S)
  | _ => none
theorem f_tuple : FnS G E (fun xs H Q => ∃ p ys, xs = [.ref p] ∧ ((SqL G.K H p ys ∧ NewT ys H Q) ∨ (SqT G.K H p ys ∧ Q (.ref p) H))) tupleF := by
  intro F S H m ds vs Q s rd q
  unfold tupleF at q
  split at q
  · rename_i d
    cases rd with
    | cons r1 r2 =>
      cases r2
      by_cases ht : ∃ zs, d = .tup zs
      · obtain ⟨zs, rfl⟩ := ht
        cases r1 with
        | tup h1 h2 => exact ⟨_, _, rfl, .inr ⟨h1.sq, RunE.here q s (.tup h1 h2)⟩⟩
      · cases e : seqL S d with
        | none =>
          have : seqA S d = none := by cases d <;> first | exact e | exact absurd ⟨_, rfl⟩ ht
          rw [this] at q; exact q.elim
        | some xs =>
          have : seqA S d = some xs := by cases d <;> first | exact e | exact absurd ⟨_, rfl⟩ ht
          rw [this] at q
          obtain ⟨p, ys, rfl, h1, h2⟩ := seqL_ok s r1 e
          exact ⟨p, ys, rfl, .inl ⟨h1, fun l o hl ho => RunE.made q s hl (VD.newT s hl ho h2)⟩⟩
  · exact q.elim
/-- ints, truths, texts all -/
def intsD : List D → Option (List Int)
  | [] => some []
  | .int i :: r => (intsD r).map (i :: ·)
  | _ => none
def blsD : List D → Option (List Bool)
  | [] => some []
  | .bl i :: r => (blsD r).map (i :: ·)
  | _ => none
def strsD : List D → Option (List Str)
  | [] => some []
  | .str i :: r => (strsD r).map (i :: ·)
  | _ => none
theorem ints_ok {H : Hp} {m L : List Addr} : ∀ {ds : List D} {vs : List V} {ns : List Int}, VDs G H m L ds vs → intsD ds = some ns → vs = ns.map V.int
  | _, _, ns, .nil, e => by cases e; rfl
  | d :: ds, _, ns, .cons r t, e => by
    cases r with
    | int i =>
      obtain ⟨ms, h1, rfl⟩ := Option.map_eq_some_iff.mp e
      rw [ints_ok t h1]; rfl
    | _ => cases e
theorem bls_ok {H : Hp} {m L : List Addr} : ∀ {ds : List D} {vs : List V} {ns : List Bool}, VDs G H m L ds vs → blsD ds = some ns → vs = ns.map V.bl
  | _, _, ns, .nil, e => by cases e; rfl
  | d :: ds, _, ns, .cons r t, e => by
    cases r with
    | bl i =>
      obtain ⟨ms, h1, rfl⟩ := Option.map_eq_some_iff.mp e
      rw [bls_ok t h1]; rfl
    | _ => cases e
theorem strs_ok {H : Hp} {m L : List Addr} : ∀ {ds : List D} {vs : List V} {ns : List Str}, VDs G H m L ds vs → strsD ds = some ns → vs = ns.map V.str
  | _, _, ns, .nil, e => by cases e; rfl
  | d :: ds, _, ns, .cons r t, e => by
    cases r with
    | str i =>
      obtain ⟨ms, h1, rfl⟩ := Option.map_eq_some_iff.mp e
      rw [strs_ok t h1]; rfl
    | _ => cases e
def sumF : Fb := fun S ds => match ds with
  | [d] => ((seqL S d).bind intsD).map fun ns => (.int ns.sum, S)
  | _ => none
def anyF : Fb := fun S ds => match ds with
  | [d] => ((seqL S d).bind blsD).map fun ns => (.bl (ns.any id), S)
  | _ => none
def allF : Fb := fun S ds => match ds with
  | [d] => ((seqL S d).bind blsD).map fun ns => (.bl (ns.all id), S)
  | _ => none
theorem one_seq {α : Type} {S : Store} {g : List D → Option α} {k : α → D × Store} {ds : List D} {q : D × Store} (h : (match ds with
  | [d] => ((seqL S d).bind g).map k
  | _ => none) = some q) : ∃ d xs z, ds = [d] ∧ seqL S d = some xs ∧ g xs = some z ∧ q = k z := by
  split at h
  · rename_i d
    obtain ⟨z, h1, h2⟩ := Option.map_eq_some_iff.mp h
    obtain ⟨xs, h3, h4⟩ := Option.bind_eq_some_iff.mp h1
    exact ⟨d, xs, z, rfl, h3, h4, h2.symm⟩
  · cases h
theorem ofP_some {F : List Addr} {H : Hp} {m L : List Addr} {o : Option (D × Store)} {Q : VK} (q : RunE G E F (ofP o) H m L Q) : ∃ p, o = some p := by
  cases o with
  | none => exact q.elim
  | some p => exact ⟨p, rfl⟩
theorem f_sum : FnS G E (rSum G.K) sumF := by
  intro F S H m ds vs Q s rd q
  obtain ⟨z, hz⟩ := ofP_some q
  rw [hz] at q
  obtain ⟨d, xs, ns, rfl, h1, h2, rfl⟩ := one_seq hz
  cases rd with
  | cons r1 r2 =>
    cases r2
    obtain ⟨a, ys, rfl, h3, h4⟩ := seqL_ok s r1 h1
    rw [ints_ok h4 h2] at h3
    exact ⟨a, ns, rfl, h3, RunE.here q s (.int _)⟩
theorem f_any : FnS G E (rAny G.K) anyF := by
  intro F S H m ds vs Q s rd q
  obtain ⟨z, hz⟩ := ofP_some q
  rw [hz] at q
  obtain ⟨d, xs, ns, rfl, h1, h2, rfl⟩ := one_seq hz
  cases rd with
  | cons r1 r2 =>
    cases r2
    obtain ⟨a, ys, rfl, h3, h4⟩ := seqL_ok s r1 h1
    rw [bls_ok h4 h2] at h3
    exact ⟨a, ns, rfl, h3, RunE.here q s (.bl _)⟩
theorem f_all : FnS G E (rAll G.K) allF := by
  intro F S H m ds vs Q s rd q
  obtain ⟨z, hz⟩ := ofP_some q
  rw [hz] at q
  obtain ⟨d, xs, ns, rfl, h1, h2, rfl⟩ := one_seq hz
  cases rd with
  | cons r1 r2 =>
    cases r2
    obtain ⟨a, ys, rfl, h3, h4⟩ := seqL_ok s r1 h1
    rw [bls_ok h4 h2] at h3
    exact ⟨a, ns, rfl, h3, RunE.here q s (.bl _)⟩
end
end Pd
end
section
/-! Pd, part L: methods of lists, texts. -/
namespace Pd
open PySem PySem.Spec PyProof.Rows L2

abbrev Fm := Store → D → List D → Option (D × Store)
def MtS (G : Ga) (E : XK) (r : V → List V → Hp → VK → Prop) (f : Fm) : Prop :=
  ∀ (F : List Addr) (S : Store) (H : Hp) (m : List Addr) (d : D) (v : V) (ds : List D) (vs : List V) (Q : VK), SR G F H m S → VD G H m (lw F m S) d v → VDs G H m (lw F m S) ds vs → RunE G E F (ofP (f S d ds)) H m (lv m S) Q → r v vs H Q
/-- of what type the receiver is -/
def isT (T : String) (S : Store) (d : D) : Bool := match d with
  | .str _ => T == "str"
  | d => T == "list" && (seqL S d).isSome
theorem isT_ok {G : Ga} {F : List Addr} {H : Hp} {m : List Addr} {S : Store} {T : String} {d : D} {v : V} (s : SR G F H m S) (r : VD G H m (lw F m S) d v) (h : isT T S d = true) : tyV G.K T v H := by
  by_cases hs : ∃ x, d = .str x
  · obtain ⟨x, rfl⟩ := hs
    cases r
    exact beq_iff_eq.mp h
  · have h' : (T == "list" && (seqL S d).isSome) = true := by cases d <;> first | exact h | exact absurd ⟨_, rfl⟩ hs
    obtain ⟨h1, h2⟩ := Bool.and_eq_true_iff.mp h'
    obtain ⟨xs, e⟩ := Option.isSome_iff_exists.mp h2
    obtain ⟨a, ys, rfl, h3, h4⟩ := seqL_ok s r e
    exact .inl ⟨beq_iff_eq.mp h1, ys, h3⟩
section
variable {X : Cx} {G : Ga} {E : XK} {o e : Expr} {es : List Expr} {fo : EvE} {ga : EvA} {name : Str} {apos cpos : Pos} {T id : String} {r : V → List V → Hp → VK → Prop} {f : Fm}
def eM0 (T : String) (f : Fm) (fo : EvE) : EvE := fun ρ S => (fo ρ S).bind fun o => if isT T o.2 o.1 = true then ofP (f o.2 o.1 []) else .bad
def eMt (T : String) (f : Fm) (fo : EvE) (ga : EvA) : EvE := fun ρ S => (fo ρ S).bind fun o => if isT T o.2 o.1 = true then (ga ρ o.2).bind fun p => ofP (f p.2 o.1 p.1) else .bad
theorem x_m0 (W : Wf X G) (pa : PlainAttrs T) (slot : Slot T name id) (hty : typeOf (.builtin id) = pure (.type "method_descriptor")) (hm : MtR X id r) (hf : MtS G E r f) (ho : PE X o (tX G E fo))
    (hbase : attributeBase o name X.env (eval o X.env) = eval o X.env := by rfl) (hline : (apos.endLine == cpos.line) = true := by rfl) : PE X (.Call (.Attribute o name apos) [] [] cpos) (tX G E (eM0 T f fo)) :=
  PE.weak (pe_bm0 pa slot hty hm ho hbase hline) fun σ H Q ⟨F, ρ, m, S, hE, hS, h⟩ => tX_bind hE hS h fun d S1 v H1 m1 _ k1 e1 s1 r1 h1 => by
    simp only at h1
    split at h1
    · rename_i c
      exact ⟨by rw [W.K]; exact isT_ok s1 r1 c, hf F S1 H1 m1 d v [] [] Q s1 r1 .nil h1⟩
    · exact h1.elim
theorem x_mt (W : Wf X G) (pa : PlainAttrs T) (slot : Slot T name id) (hty : typeOf (.builtin id) = pure (.type "method_descriptor")) (hm : MtR X id r) (hf : MtS G E r f) (ho : PE X o (tX G E fo)) (ha : PA X (e :: es) (tA G E ga))
    (hbase : attributeBase o name X.env (eval o X.env) = eval o X.env := by rfl)
    (hfew : ((backTo cpos (starEach (e :: es) X.env)).all (fun x => !x.1) && (backToKw cpos (keywordEach [] X.env)).all (fun x => x.1.isSome)
      && decide ((e :: es).length + ([] : List Keyword).length + (if ([] : List Keyword).isEmpty then 0 else 1) < 30)) = true := by rfl)
    (hline : (apos.endLine == cpos.line) = true := by rfl) (hs : starEach (e :: es) X.env = (false, eval e X.env) :: starEach es X.env := by rfl) (hplain : (backTo cpos (starEach es X.env)).any (·.1) = false := by rfl) :
    PE X (.Call (.Attribute o name apos) (e :: es) [] cpos) (tX G E (eMt T f fo ga)) :=
  PE.weak (pe_bm pa slot hty hm ho ha hbase hfew hline hs hplain) fun σ H Q ⟨F, ρ, m, S, hE, hS, h⟩ => tX_bind hE hS h fun d S1 v H1 m1 _ k1 e1 s1 r1 h1 => by
    simp only at h1
    split at h1
    · rename_i c
      exact ⟨by rw [W.K]; exact isT_ok s1 r1 c, tA_bind e1 s1 h1 fun as S2 vs H2 m2 q2 k2 e2 s2 r2 h2 => hf F S2 H2 m2 d v as vs Q s2 (r1.mono k2) r2 h2⟩
    · exact h1.elim

/-! ### lists that change -/
def appendF : Fm := fun S d ds => match d, ds with
  | .ref n, [y] => match S[n]? with
    | some (.lst xs) => if xs.length < sizeLine then some (.non, S.set n (.lst (xs ++ [y]))) else none
    | _ => none
  | _, _ => none
theorem ofP_bad {F : List Addr} {H : Hp} {m L : List Addr} {Q : VK} {P : Prop} {o : Option (D × Store)} (e : o = none) (h : RunE G E F (ofP o) H m L Q) : P := by rw [e] at h; exact h.elim
theorem f_append : MtS G E rAppend appendF := by
  intro F S H m d v ds vs Q s rd rs q
  unfold appendF at q
  split at q
  · rename_i n y
    split at q
    · rename_i xs e
      split at q
      · rename_i hl
        cases rd with
        | ref hn =>
          rename_i a
          cases rs with
          | cons r1 r2 =>
            cases r2
            obtain ⟨ys, h3, h4⟩ := s.list e hn
            rename_i w
            have kk : Kp H m (lv m S) (upd H a (.lst (ys ++ [w]))) m (lv m (S.set n (.lst (xs ++ [y])))) := Kp.store s e hn rfl rfl
            exact ⟨a, ys, w, rfl, rfl, h3, by rw [← h4.length]; exact hl, q .non _ m kk (SR.store s e hn rfl rfl ⟨_, upd_same, (h4.mono kk).append (.cons (r1.mono kk) .nil)⟩) .non⟩
      · exact q.elim
    · exact q.elim
  · exact q.elim
def popF : Fm := fun S d ds => match d, ds with
  | .ref n, [] => match S[n]? with
    | some (.lst xs) => match xs[xs.length - 1]? with
      | some y => some (y, S.set n (.lst xs.dropLast))
      | none => none
    | _ => none
  | _, _ => none
theorem VDs.dropLast {H : Hp} {m L : List Addr} : ∀ {ds : List D} {vs : List V}, VDs G H m L ds vs → VDs G H m L ds.dropLast vs.dropLast
  | _, _, .nil => .nil
  | [_], [_], .cons _ .nil => .nil
  | _ :: _ :: _, _ :: _ :: _, .cons r (.cons r' t) => .cons r (VDs.dropLast (.cons r' t))
theorem f_pop : MtS G E rPop popF := by
  intro F S H m d v ds vs Q s rd rs q
  unfold popF at q
  split at q
  · rename_i n
    split at q
    · rename_i xs e
      split at q
      · rename_i y hy
        cases rd with
        | ref hn =>
          rename_i a
          cases rs
          obtain ⟨ys, h3, h4⟩ := s.list e hn
          obtain ⟨w, hw, rw'⟩ := h4.get hy
          have kk : Kp H m (lv m S) (upd H a (.lst ys.dropLast)) m (lv m (S.set n (.lst xs.dropLast))) := Kp.store s e hn rfl rfl
          exact ⟨a, ys, w, rfl, rfl, h3, by rw [← h4.length]; exact hw, q w _ m kk (SR.store s e hn rfl rfl ⟨_, upd_same, (h4.mono kk).dropLast⟩) (rw'.mono kk)⟩
      · exact q.elim
    · exact q.elim
  · exact q.elim
def popAtF : Fm := fun S d ds => match d, ds with
  | .ref n, [.int i] => match S[n]? with
    | some (.lst xs) => if -(2 ^ 63) ≤ i ∧ i < 2 ^ 63 then match seqIndex? i xs.length with
        | some k => match xs[k]? with
          | some y => some (y, S.set n (.lst (xs.eraseIdx k)))
          | none => none
        | none => none
      else none
    | _ => none
  | _, _ => none
theorem f_popAt : MtS G E rPopAt popAtF := by
  intro F S H m d v ds vs Q s rd rs q
  unfold popAtF at q
  split at q
  · rename_i n i
    split at q
    · rename_i xs e
      split at q
      · rename_i hb
        split at q
        · rename_i k hk
          split at q
          · rename_i y hy
            cases rd with
            | ref hn =>
              rename_i a
              cases rs with
              | cons r1 r2 =>
                cases r2
                cases r1
                obtain ⟨ys, h3, h4⟩ := s.list e hn
                obtain ⟨w, hw, rw'⟩ := h4.get hy
                have kk : Kp H m (lv m S) (upd H a (.lst (ys.eraseIdx k))) m (lv m (S.set n (.lst (xs.eraseIdx k)))) := Kp.store s e hn rfl rfl
                exact ⟨a, ys, i, k, w, rfl, rfl, h3, hb.1, hb.2, by rw [← h4.length]; exact hk, hw, q w _ m kk (SR.store s e hn rfl rfl ⟨_, upd_same, (h4.mono kk).eraseIdx k⟩) (rw'.mono kk)⟩
          · exact q.elim
        · exact q.elim
      · exact q.elim
    · exact q.elim
  · exact q.elim

/-! ### a list is asked -/
def indexF : Fm := fun S d ds => match ds with
  | [y] => match py S 4 d, py S 4 y with
    | some (.list zs), some b => if (SeqAt.shaped (.list zs) && SeqAt.shaped b) = true then (zs.findIdx? fun z => PyData.eqv z b).map fun j => (.int (j : Nat), S) else none
    | _, _ => none
  | _ => none
theorem f_index : MtS G E (rIndexD G.K) indexF := by
  intro F S H m d v ds vs Q s rd rs q
  unfold indexF at q
  split at q
  · rename_i y
    split at q
    · rename_i zs b e1 e2
      split at q
      · rename_i hsh
        obtain ⟨h1, h2⟩ := Bool.and_eq_true_iff.mp hsh
        cases rs with
        | cons r1 r2 =>
          cases r2
          rename_i w
          have p1 := py_dp s 4 rd e1
          have p2 := py_dp s 4 r1 e2
          cases e3 : zs.findIdx? fun z => PyData.eqv z b with
          | none => rw [e3] at q; exact q.elim
          | some j =>
            rw [e3] at q
            obtain ⟨hj, hj2, hj3⟩ := List.findIdx?_eq_some_iff_getElem.mp e3
            have hv : ∃ a, v = .ref a := by cases p1; exact ⟨_, rfl⟩
            obtain ⟨a, rfl⟩ := hv
            refine ⟨a, w, b, zs, j, zs[j], rfl, rfl, p1, p2, h1, h2, List.getElem?_eq_getElem hj, hj2, fun i z hi hz => ?_, RunE.here q s (.int _)⟩
            obtain ⟨l, e⟩ := List.getElem?_eq_some_iff.mp hz
            have := hj3 i hi
            rw [e] at this
            simpa using this
      · exact q.elim
    · exact q.elim
  · exact q.elim
def countF : Fm := fun S d ds => match ds with
  | [.int k] => ((seqL S d).bind intsD).map fun ns => (.int (ns.count k : Nat), S)
  | _ => none

/-! ### texts -/
def splitF : Fm := fun S d ds => match d, ds with
  | .str a, [.str b] => if b.length ≠ 0 ∧ a.length + 2 ≤ sizeLine then some (.lst ((Txt.split a b).map .str), S) else none
  | _, _ => none
theorem VDs.strs {H : Hp} {m L : List Addr} : ∀ ys : List Str, VDs G H m L (ys.map D.str) (ys.map V.str)
  | [] => .nil
  | y :: r => .cons (.str y) (VDs.strs r)
theorem newStrs {F : List Addr} {H : Hp} {m : List Addr} {S : Store} {Q : VK} {ys : List Str} (s : SR G F H m S) (q : RunE G E F (.ok (.lst (ys.map D.str), S)) H m (lv m S) Q) : rNewStrs ys H Q :=
  fun p hp => RunE.made q s hp (VD.newL s hp (VDs.strs ys))
theorem newStrsC {F : List Addr} {H : Hp} {m : List Addr} {S : Store} {Q : VK} {ys : List Str} (s : SR G F H m S) (q : RunE G E F (.ok (.ref S.length, S ++ [.lst (ys.map D.str)])) H m (lv m S) Q) : rNewStrs ys H Q :=
  fun p hp => RunE.madeC q s hp ⟨_, upd_same, VDs.strs ys⟩
theorem f_split : MtS G E (fun x xs H Q => ∃ a b, x = .str a ∧ xs = [.str b] ∧ (b.length == 0) = false ∧ a.length + 2 ≤ sizeLine ∧ rNewStrs (Txt.split a b) H Q) splitF := by
  intro F S H m d v ds vs Q s rd rs q
  unfold splitF at q
  split at q
  · rename_i a b
    split at q
    · rename_i hb
      cases rd
      cases rs with
      | cons r1 r2 =>
        cases r2
        cases r1
        exact ⟨a, b, rfl, rfl, beq_eq_false_iff_ne.mpr hb.1, hb.2, newStrs s q⟩
    · exact q.elim
  · exact q.elim
/-- .. a list that is changed -/
def splitC : Fm := fun S d ds => match d, ds with
  | .str a, [.str b] => if b.length ≠ 0 ∧ a.length + 2 ≤ sizeLine then some (.ref S.length, S ++ [.lst ((Txt.split a b).map .str)]) else none
  | _, _ => none
theorem f_splitC : MtS G E (fun x xs H Q => ∃ a b, x = .str a ∧ xs = [.str b] ∧ (b.length == 0) = false ∧ a.length + 2 ≤ sizeLine ∧ rNewStrs (Txt.split a b) H Q) splitC := by
  intro F S H m d v ds vs Q s rd rs q
  unfold splitC at q
  split at q
  · rename_i a b
    split at q
    · rename_i hb
      cases rd
      cases rs with
      | cons r1 r2 =>
        cases r2
        cases r1
        exact ⟨a, b, rfl, rfl, beq_eq_false_iff_ne.mpr hb.1, hb.2, newStrsC s q⟩
    · exact q.elim
  · exact q.elim
def joinF : Fm := fun S d ds => match d, ds with
  | .str a, [l] => match (seqA S l).bind strsD with
    | some ys => if (ys.map (·.length)).sum + ys.length * a.length ≤ 16777216 then some (.str (Txt.join a ys), S) else none
    | none => none
  | _, _ => none
theorem f_join : MtS G E (fun x xs H Q => ∃ a p, ∃ ys : List Str, x = .str a ∧ xs = [.ref p] ∧ (SqL G.K H p (ys.map V.str) ∨ SqT G.K H p (ys.map V.str)) ∧
    (ys.map (·.length)).sum + ys.length * a.length ≤ 16777216 ∧ Q (.str (Txt.join a ys)) H) joinF := by
  intro F S H m d v ds vs Q s rd rs q
  unfold joinF at q
  split at q
  · rename_i a l
    split at q
    · rename_i ys e
      split at q
      · rename_i hb
        obtain ⟨xs, h1, h2⟩ := Option.bind_eq_some_iff.mp e
        cases rd
        cases rs with
        | cons r1 r2 =>
          cases r2
          obtain ⟨p, zs, rfl, h3, h4⟩ := seqA_ok s r1 h1
          rw [strs_ok h4 h2] at h3
          exact ⟨a, p, ys, rfl, rfl, h3, hb, RunE.here q s (.str _)⟩
      · exact q.elim
    · exact q.elim
  · exact q.elim
end
end Pd
end
section
/-! Pd, part M: isinstance; str, repr, bool, == of own objects. -/
namespace Pd
open PySem PySem.Spec PyProof.Rows L2

section
variable {prog : Program} {w : World} {A : Around} {E : Value → Shared → Prop} {s : Shared}
/-- str(v), by what strOf does two steps below -/
theorem str_below {v : Value} {Q : Value → Shared → Prop} (h : wpAny (model prog w) A.in1.in1 (Builtin.Str.strOf v) (fun r s' => (∃ y t, r = .str y t) ∧ Q r s') E s) :
    wpAny (model prog w) A (call (.type "str") [v]) Q E s := by
  have T := F.called_str
  obtain ⟨c, tl, m1⟩ := T.mro
  obtain ⟨m2, m3, m4, m5⟩ := (⟨T.made, T.sub, T.notType, T.canCreate⟩ : _ ∧ _ ∧ _ ∧ _)
  have m6 := F.typeCall_str_1 v
  refine wpAny_call (codeAny_of_tree (show wpAny _ _ (callAny (.type "str") ⟨[v], []⟩) _ _ _ from ?_))
  refine wpAny_pure ⟨Code.quiet_builtin _ (by decide +kernel), codeAny_builtin F.entry_type_call ?_⟩
  rw [Around.under_plain (weight_type_call_type "str" [v] []) (units_type_call_type "str" [v] [])]
  repeat (any_goals (first | assumption | wp_step))
  have hb : wpAny (model prog w) A.in1.in1 (Builtin.«str.__new__» ⟨[.type "str", v], []⟩) (GQ.FinOf prog w A.in1 (wants (fun r s' => (∃ y t, r = .str y t) ∧ Q r s') E)) (fun e s' => wants (fun r s' => (∃ y t, r = .str y t) ∧ Q r s') E (.error e) s') s := by
    rw [str_new_tree v]
    refine wpAny_bind (wpAny_pure (wpAny_bind (wpAny_of_eq isSubtype_str_str ?_)))
    exact wpAny_bind (wpAny_mono h (fun r s' q => wpAny_pure q) fun _ _ q => q)
  refine codeAny_mono (codeAny_call_builtin T.plain F.entry_str_new (wpAny_of_eq (F.newCall_str_1 v) hb)) fun r s1 hr => ?_
  cases r with
  | error e => exact hr
  | ok fl =>
    cases fl with
    | ret obj =>
      obtain ⟨⟨y, t, ey⟩, hq⟩ := hr
      have hT : s1.TypeIs obj "str" := by rw [ey]; exact typeIs_str s1 y t
      clear ey
      have n1 := T.init.lookup
      have n2 := T.init.bind obj
      repeat (any_goals (first | assumption | wp_step))
      refine codeAny_mono (codeAny_call_builtin T.init.plain F.entry_object_init (T.init.check _ _ _ _ _ _ _ _ hT (F.args_object_init_2 obj v) (object_init_meets n1 m2 (by decide) prog w A.in1 _ s1 ⟨hT, (show wants (fun r s' => r = .none ∧ Q obj s') E (.ok (.ret .none)) s1 from ⟨rfl, hq⟩)⟩))) fun r2 s2 hr2 => ?_
      cases r2 with
      | error e => exact hr2
      | ok fl2 =>
        cases fl2 with
        | ret r =>
          obtain ⟨rfl, hq2⟩ := hr2
          refine wpAny_pure ?_
          show wpAny _ _ (ret obj) _ _ _
          exact wpAny_pure hq2
        | _ => exact hr2.elim
    | _ => exact hr.elim
end
end Pd
end
section
/-! Pd, part N: str, repr, bool, isinstance, == with own objects. -/
namespace Pd
open PySem PySem.Spec PyProof.Rows L2

section
variable {μ : Mu} {X : Cx} {G : Ga} {E : XK} {k : Nat} {C g : Addr} {fd : FuncData} {ps : List Str} {fF : FD} {x nm : Str} {p pos : Pos} {e : Expr} {fo : EvE} {sp : Sp}
/-- the class has the method nm: what it does with the object alone -/
structure Dun (μ : Mu) (X : Cx) (G : Ga) (k : Nat) (nm : Str) (c : Nat) (fF : FD) : Prop where
  ex : ∃ (C g : Addr) (fd : FuncData) (ps : List Str), G.cls[c]? = some C ∧ PySem.W.findIn X.K (.ref C) nm = some (some (.ref g)) ∧ PySem.W.isFn X.K (.ref g) = true ∧ FnG μ X.prog X.w X.K X.mg X.base k g fd ps (spD G 1 fF) ∧ BP X.K fd ps 1 [] [] [0]
def Duns (μ : Mu) (X : Cx) (G : Ga) (k : Nat) (nm : Str) (tbl : List (Nat × FD)) : Prop := ∀ c fF, tbl.lookup c = some fF → Dun μ X G k nm c fF
theorem duns_nil : Duns μ X G k nm [] := fun _ _ h => by cases h
theorem duns_cons {c : Nat} {tbl : List (Nat × FD)} (h : Dun μ X G k nm c fF) (t : Duns μ X G k nm tbl) : Duns μ X G k nm ((c, fF) :: tbl) := fun d gF e => by
  by_cases q : d = c
  · subst q
    simp [List.lookup] at e
    subst e
    exact h
  · have b : (d == c) = false := by simpa using q
    simp only [List.lookup, b] at e
    exact t d gF e
/-- such a method, run at A with the object alone -/
theorem dun_run {A : Around} {pins : List (Addr × Obj)} {σ : L2.St} {H : Hp} {s : Shared} {a : Addr} {Q : VK} (hF : FnG μ X.prog X.w X.K X.mg X.base k g fd ps sp) (hA : A.guards = some []) (hr : RmA μ k A X.stack H s) (hf : A.frames = X.A.frames) (hb : BP X.K fd ps 1 [] [] [0])
    (hx : Passes (L2N.CX X.prog X.w) X E) (I : Inv X pins σ H s) (h : sp [.ref a] H Q E) : wpAny (model X.prog X.w) A (call (.ref g) [.ref a]) (EP X pins σ Q) X.xe s :=
  wpAny_call (codeAny_mono (run_bp (us := [.ref a]) (vs := [.ref a]) (ws := []) (zs := []) hF hA hr ⟨by rw [hf]; exact I.env0.frames, I.env0.mod, I.env0.bs, I.env0.bsz, I.env0.funs, I.env0.frf, I.env0.hok, I.env0.bare⟩ hb hx I (.cons rfl .nil) .nil rfl rfl h) fun res s' hq => by
    cases res with
    | error er => exact hq
    | ok fl => cases fl <;> first | exact hq | exact False.elim hq)
/-- .. its result is a text -/
def strQ (Q : VK) : VK := fun v H => ∃ y, v = .str y ∧ Q v H
def onlyS (r : Res (D × Store)) : Res (D × Store) := r.bind fun q => match q.1 with
  | .str _ => .ok q
  | _ => .bad
theorem onlyS_run {F : List Addr} {r : Res (D × Store)} {H : Hp} {m L : List Addr} {Q : VK} (h : RunE G E F (onlyS r) H m L Q) : RunE G E F r H m L (strQ Q) := by
  cases r with
  | ok q =>
    obtain ⟨d, S⟩ := q
    intro v H' m' k s rv
    cases rv with
    | str y => exact ⟨y, rfl, h _ _ m' k s (.str y)⟩
    | _ => exact h.elim
  | exc y S => exact h
  | bad => exact h
def dunE (tbl : List (Nat × FD)) (g : Fb) (fo : EvE) : EvE := fun ρ S => (fo ρ S).bind fun o => match fldsD o.2 o.1 with
  | some (c, _) => match tbl.lookup c with
    | some fF => onlyS (fF [o.1] o.2)
    | none => .bad
  | none => ofP (g o.2 [o.1])

/-! ### str -/
theorem str_own {pins : List (Addr × Obj)} {σ : L2.St} {H : Hp} {s : Shared} {a dx : Addr} {gs : List (Str × V)} {Q : VK} (W : Wf X G) (I : Inv X pins σ H s) (ea : H a = some (.ins C dx gs)) (hs : PySem.W.findIn X.K (.ref C) "__str__" = some (some (.ref g))) (hf : PySem.W.isFn X.K (.ref g) = true)
    (hF : FnG μ X.prog X.w X.K X.mg X.base k g fd ps sp) (hr : Rm μ (k + 2) X) (hb : BP X.K fd ps 1 [] [] [0]) (hx : Passes (L2N.CX X.prog X.w) X E) (h : sp [.ref a] H (strQ Q) E) : wpAny (model X.prog X.w) X.A (call (.type "str") [.ref a]) (EP X pins σ Q) X.xe s := by
  obtain ⟨mA, O, _⟩ := ins_get I.hok ea
  obtain ⟨od, J, _⟩ := O.look
  refine str_below ?_
  unfold Builtin.Str.strOf
  refine wpAny_bind (m := cRoomFor _ _) (wpAny_cRoomFor (by have := W.units; show X.A.units + 1 + 1 < _; omega) ?_)
  refine wpAny_bind (m := callSpecial? (.ref a) (Str.ofString "__str__")) (PySem.W.special_fn I.kIn J hs (beq_iff_eq.mp hf) (wpAny_mono (dun_run (A := X.A.in1.in1) hF W.guards ((hr.at I).in1).in1 rfl hb hx I h) (fun u s' hq => ?_) fun _ _ y => y))
  obtain ⟨v, H', I', rv, y, rfl, q⟩ := hq
  obtain ⟨t, rfl⟩ := rv
  exact wpAny_pure ⟨⟨y, t, rfl⟩, ⟨.str y, H', I', ⟨t, rfl⟩, q⟩⟩
theorem call_strA : CallR X (.type "str") (fun xs H Q => (∃ i, xs = [.int i] ∧ i.natAbs.log2 < 1920 ∧ Q (.str (toString i)) H) ∨ ∃ a, xs = [.str a] ∧ Q (.str a) H) := call_str_int.or SkE.call_str_str
theorem x_strO {tbl : List (Nat × FD)} (W : Wf X G) (ht : Duns μ X G k "__str__" tbl) (hr : Rm μ (k + 2) X) (hx : Passes (L2N.CX X.prog X.w) X E) (ho : PE X e (tX G E fo)) (hm : X.mg "str" = none) (hg : Gl X "str" := by rfl) (hv : bootBuiltins "str" = some (.type "str") := by rfl)
    (he : starEach [e] X.env = (false, eval e X.env) :: starEach [] X.env := by rfl) : PE X (.Call (.Name "str" p) [e] [] pos) (tX G E (dunE tbl (f1 strD) fo)) := by
  refine ⟨fun pins s σ H Q I h => ?_⟩
  obtain ⟨F, ρ, m, S, hE, hS, h⟩ := h
  refine wpAny_Call_Name_kw (ld_blt I hg hm hv ?_ (by decide) (by decide))
  refine PyProof.Rows.callWith_type1 (thn ((pa_cons ho pa_nil he).run pos pins s σ H (fun vs H1 => ∀ s1 us, Inv X pins σ H1 s1 → Vals vs us → wpAny (model X.prog X.w) X.A (call (.type "str") us) (EP X pins σ Q) X.xe s1) I ?_) fun us s1 ⟨vs, H1, I1, r1, q1⟩ => q1 s1 us I1 r1) he rfl
  refine tX_bind (Q' := fun v H1 => tNil σ H1 fun vs H2 => ∀ s1 us, Inv X pins σ H2 s1 → Vals (v :: vs) us → wpAny (model X.prog X.w) X.A (call (.type "str") us) (EP X pins σ Q) X.xe s1) hE hS h fun d S1 v H1 m1 _ k1 e1 s1 r1 h1 s2 us I2 rv => ?_
  cases q : fldsD S1 d with
  | none =>
    simp only [q] at h1
    exact call_strA pins s2 σ H1 [v] us Q I2 rv (f_str F S1 H1 m1 [d] [v] Q s1 (.cons r1 .nil) h1)
  | some z =>
    obtain ⟨c, fs⟩ := z
    simp only [q] at h1
    cases q2 : tbl.lookup c with
    | none => simp only [q2] at h1; exact h1.elim
    | some fF =>
      simp only [q2] at h1
      obtain ⟨C, g, fd, ps, hC, hs, hf, hF, hb⟩ := (ht c fF q2).ex
      obtain ⟨a, C', dx, gs, rfl, hc', ha, _⟩ := flds_ok s1 r1 q
      rw [hC] at hc'; cases hc'
      cases rv with
      | cons ra rn =>
        cases rn
        cases ra
        exact str_own W I2 ha hs hf hF hr hb hx ⟨rfl, F, [d], m1, S1, .cons r1 .nil, s1, onlyS_run h1⟩

/-! ### repr -/
def reprF : Fb := fun S ds => match ds with
  | [.dct []] => some (.str "{}", S)
  | [d] => match py S 4 d with
    | some p => if (p.showable && !p.hasDict && decide (p.shown.length ≤ sizeLine) && decide (p.depth ≤ 60)) = true then some (.str p.shown, S) else none
    | none => none
  | _ => none
def rRep (K : PySem.W.Frag) : List V → Hp → VK → Prop := fun xs H Q => (∃ a, xs = [.ref a] ∧ H a = some (.dK []) ∧ Q (.str "{}") H) ∨ ∃ x q, xs = [x] ∧ Dp K H x q ∧ q.showable = true ∧ q.hasDict = false ∧ q.shown.length ≤ sizeLine ∧ q.depth ≤ 60 ∧ Q (.str q.shown) H
theorem call_repD (W : Wf X G) : CallR X (.builtin "repr") (rRep X.K) := by
  intro pins s σ H xs us Q I r h
  rcases h with ⟨a, rfl, ea, hq⟩ | h
  · obtain ⟨u, rfl, ru⟩ := vals1 r
    obtain rfl : u = Value.ref a := ru
    have ok : ObjOk X.prog X.w H s.heap a (.dK []) := I.hok a _ ea
    obtain ⟨_, ns, vs, kv, o, es, ep, e1, e2, e3, _, e5, _⟩ := ok
    cases kv
    have e6 : es.toList = [] := by
      have := e5.length
      simpa using this
    have rd : Reads s.heap (.ref a) (.dict []) (a :: [] ++ []) := .dict e1 e2.1 e3 (by rw [e6]; exact .nil) (by rw [e6]; exact .nil)
    refine repr_of_reads' rd rfl (fun _ z => ?_) W.guards (by have := W.units; show X.A.units + (1 + 1) < cLine; omega) (fun _ _ z => z) (fun h' t tk hk => ⟨.str "{}", H, I.kept hk, ⟨t, rfl⟩, hq⟩)
    rw [show sysModules = a by simpa using z] at ns
    simp at ns
  obtain ⟨y, q, rfl, hd, h1, h2, h3, h4, hq⟩ := h
  obtain ⟨u, rfl, ru⟩ := vals1 r
  have fin : ∀ t tk, EP X pins σ Q (.str q.shown t) { s with toks := tk } := fun t tk => ⟨.str q.shown, H, I.tok _, ⟨_, rfl⟩, hq⟩
  have fin2 : ∀ h' t tk, (∀ b o, s.heap.get? b = some o → h'.get? b = some o) → EP X pins σ Q (.str q.shown t) { s with heap := h', toks := tk } := fun h' t tk hk => ⟨.str q.shown, H, I.kept hk, ⟨_, rfl⟩, hq⟩
  obtain ⟨as, rd⟩ := Dp.reads I q y u hd ru
  have big : ∀ a, u = .ref a → wpAny (model X.prog X.w) X.A (call (.builtin "repr") [u]) (EP X pins σ Q) X.xe s := fun a e => by
    subst e
    exact repr_of_reads' rd h1 (fun z => by rw [h2] at z; cases z) W.guards (by have := W.units; omega) (fun _ _ z => z) fin2 h3
  cases hd with
  | non => cases ru; exact call_repr_gives (typeIs_none s) F.slot_NoneType_repr F.entry_NoneType_repr (F.args_NoneType_repr_1 _) gives_none_repr (fin _ _) rfl h3
  | bl b => cases ru; exact PySem.P.repr_of_bool (fin _ _)
  | int i =>
    obtain ⟨t, rfl⟩ := ru
    exact PySem.P.repr_of_int (of_decide_eq_true (by simpa only [PyData.showable] using h1)) (fin _ _)
  | str x =>
    obtain ⟨t, rfl⟩ := ru
    exact PySem.P.repr_of_str (fin _ _) h3
  | lst _ _ => exact big _ ru
  | tup _ _ => exact big _ ru
theorem f_repr : FnS G E (rRep G.K) reprF := by
  intro F S H m ds vs Q s rd q
  unfold reprF at q
  split at q
  · cases rd with
    | cons r1 r2 =>
      cases r2
      cases r1 with
      | dct hx _ kd =>
        cases kd
        exact .inl ⟨_, rfl, hx, RunE.here q s (.str _)⟩
  · rename_i d _
    split at q
    · rename_i p e
      split at q
      · rename_i c
        simp only [Bool.and_eq_true, Bool.not_eq_true', decide_eq_true_eq] at c
        cases rd with
        | cons r1 r2 =>
          cases r2
          exact .inr ⟨_, p, rfl, py_dp s 4 r1 e, c.1.1.1, c.1.1.2, c.1.2, c.2, RunE.here q s (.str _)⟩
      · exact q.elim
    · exact q.elim
  · exact q.elim
theorem repr_own {pins : List (Addr × Obj)} {σ : L2.St} {H : Hp} {s : Shared} {a dx : Addr} {gs : List (Str × V)} {Q : VK} (W : Wf X G) (I : Inv X pins σ H s) (ea : H a = some (.ins C dx gs)) (hs : PySem.W.findIn X.K (.ref C) "__repr__" = some (some (.ref g))) (hf : PySem.W.isFn X.K (.ref g) = true)
    (hF : FnG μ X.prog X.w X.K X.mg X.base k g fd ps sp) (hr : Rm μ (k + 1) X) (hb : BP X.K fd ps 1 [] [] [0]) (hx : Passes (L2N.CX X.prog X.w) X E) (h : sp [.ref a] H (strQ Q) E) : wpAny (model X.prog X.w) X.A (call (.builtin "repr") [.ref a]) (EP X pins σ Q) X.xe s := by
  obtain ⟨mA, O, _⟩ := ins_get I.hok ea
  obtain ⟨od, J, _⟩ := O.look
  obtain ⟨m, hFr⟩ := I.fr
  refine PySem.W.repr_K (by have := W.units; show X.A.units + 1 < _; omega) hFr I.ok.mod.kin J hs hf (wpAny_mono (dun_run (A := X.A.in1) hF W.guards (hr.at I).in1 rfl hb hx I h) (fun u s' hq => ?_) fun _ _ y => y)
  obtain ⟨v, H', I', rv, y, rfl, q⟩ := hq
  obtain ⟨t, rfl⟩ := rv
  exact ⟨.str y, H', I', ⟨t, rfl⟩, q⟩
theorem x_reprO {tbl : List (Nat × FD)} (W : Wf X G) (ht : Duns μ X G k "__repr__" tbl) (hr : Rm μ (k + 1) X) (hx : Passes (L2N.CX X.prog X.w) X E) (ho : PE X e (tX G E fo)) (hm : X.mg "repr" = none) (hg : Gl X "repr" := by rfl) (hv : bootBuiltins "repr" = some (.builtin "repr") := by rfl)
    (he : starEach [e] X.env = (false, eval e X.env) :: starEach [] X.env := by rfl) : PE X (.Call (.Name "repr" p) [e] [] pos) (tX G E (dunE tbl reprF fo)) := by
  refine ⟨fun pins s σ H Q I h => ?_⟩
  obtain ⟨F, ρ, m, S, hE, hS, h⟩ := h
  refine wpAny_Call_Name_kw (ld_blt I hg hm hv ?_ (by decide) (by decide))
  refine PyProof.Rows.callWith_builtin1 (thn ((pa_cons ho pa_nil he).run pos pins s σ H (fun vs H1 => ∀ s1 us, Inv X pins σ H1 s1 → Vals vs us → wpAny (model X.prog X.w) X.A (call (.builtin "repr") us) (EP X pins σ Q) X.xe s1) I ?_) fun us s1 ⟨vs, H1, I1, r1, q1⟩ => q1 s1 us I1 r1) he rfl
  refine tX_bind (Q' := fun v H1 => tNil σ H1 fun vs H2 => ∀ s1 us, Inv X pins σ H2 s1 → Vals (v :: vs) us → wpAny (model X.prog X.w) X.A (call (.builtin "repr") us) (EP X pins σ Q) X.xe s1) hE hS h fun d S1 v H1 m1 _ k1 e1 s1 r1 h1 s2 us I2 rv => ?_
  cases q : fldsD S1 d with
  | none =>
    simp only [q] at h1
    exact call_repD W pins s2 σ H1 [v] us Q I2 rv (by rw [W.K]; exact f_repr F S1 H1 m1 [d] [v] Q s1 (.cons r1 .nil) h1)
  | some z =>
    obtain ⟨c, fs⟩ := z
    simp only [q] at h1
    cases q2 : tbl.lookup c with
    | none => simp only [q2] at h1; exact h1.elim
    | some fF =>
      simp only [q2] at h1
      obtain ⟨C, g, fd, ps, hC, hs, hf, hF, hb⟩ := (ht c fF q2).ex
      obtain ⟨a, C', dx, gs, rfl, hc', ha, _⟩ := flds_ok s1 r1 q
      rw [hC] at hc'; cases hc'
      cases rv with
      | cons ra rn =>
        cases rn
        cases ra
        exact repr_own W I2 ha hs hf hF hr hb hx ⟨rfl, F, [d], m1, S1, .cons r1 .nil, s1, onlyS_run h1⟩

/-! ### isinstance -/
inductive Kd where
  | non | bl | int | str | tup | lst | dct | ins (c : Nat)
  deriving DecidableEq
def kdD (S : Store) : D → Option Kd
  | .non => some .non
  | .bl _ => some .bl
  | .int _ => some .int
  | .str _ => some .str
  | .tup _ => some .tup
  | .lst _ => some .lst
  | .scr _ => some .lst
  | .dct _ => some .dct
  | .ins c _ => some (.ins c)
  | .ref n => match S[n]? with
    | some (.lst _) => some .lst
    | some (.dct _) => some .dct
    | some (.ins c _) => some (.ins c)
    | _ => none
  | _ => none
def kdT (G : Ga) : Kd → Option Value
  | .non => some (.type "NoneType")
  | .bl => some (.type "bool")
  | .int => some (.type "int")
  | .str => some (.type "str")
  | .tup => some (.type "tuple")
  | .lst => some (.type "list")
  | .dct => some (.type "dict")
  | .ins c => (G.cls[c]?).map .ref
/-- what isinstance asks of a class -/
structure ClsI (K : PySem.W.Frag) (C : Addr) : Prop where
  ha : PySem.W.findIn K (.ref C) "__class__" = some (some (.builtin "object.__class__"))
  hn : PySem.W.specialIn K (.builtin "object.__class__") "__get__" = some (some (.builtin "getset_descriptor.__get__"))
  htk : PySem.W.takesIn K (.builtin "object.__class__") = some true
  hm : PySem.W.mroIn K C (.type "object") = some true
structure WfI (K : PySem.W.Frag) (G : Ga) : Prop where
  wc : WfC K G
  ci : ∀ C ∈ G.cls, ClsI K C
theorem kd_ok {F : List Addr} {H : Hp} {m : List Addr} {S : Store} {d : D} {v : V} {kd : Kd} (W : WfI G.K G) (s : SR G F H m S) (r : VD G H m (lw F m S) d v) (h : kdD S d = some kd) : ∃ t, kdT G kd = some t ∧ TyX G.K H v t := by
  have insT : ∀ {c : Nat} {a C dx : Addr} {gs : List (Str × V)}, G.cls[c]? = some C → H a = some (.ins C dx gs) → TyX G.K H (.ref a) (.ref C) := fun hc ha => by
    have hC := List.mem_of_getElem? hc
    exact .base (.ins ha (W.wc.cls _ hC) (W.ci _ hC).ha (W.ci _ hC).hn (W.ci _ hC).htk (W.ci _ hC).hm)
  cases r with
  | non => cases h; exact ⟨_, rfl, .base .non⟩
  | bl b => cases h; exact ⟨_, rfl, .base (.bl b)⟩
  | int i => cases h; exact ⟨_, rfl, .base (.int i)⟩
  | str x => cases h; exact ⟨_, rfl, .base (.str x)⟩
  | tup hx _ =>
    cases h
    refine ⟨_, rfl, ?_⟩
    rcases hx.sq with (hx | ⟨o, hx⟩) | ⟨o, its, n, h1, h2, _⟩
    · exact .base (.tup hx)
    · exact .fTuple hx
    · exact .kTuple h1 h2
  | lst hx _ _ => cases h; exact ⟨_, rfl, .base (.lst hx)⟩
  | scr hx _ =>
    cases h
    refine ⟨_, rfl, ?_⟩
    rcases hx.sq with (hx | ⟨o, hx⟩) | ⟨o, its, n, h1, h2, _⟩
    · exact .base (.lst hx)
    · exact .base (.frz hx)
    · exact .kList h1 h2
  | ins hc hx _ _ => cases h; exact ⟨_, by simp only [kdT, hc]; rfl, insT hc hx⟩
  | dct hx _ _ => cases h; exact ⟨_, rfl, .base (.dK hx)⟩
  | ext _ _ _ _ => cases h
  | cl _ => cases h
  | exn _ _ _ => cases h
  | ref hn =>
    rename_i n a
    unfold kdD at h
    simp only at h
    split at h
    · rename_i xs e
      cases h
      obtain ⟨ys, h3, _⟩ := s.list e hn
      exact ⟨_, rfl, .base (.lst h3)⟩
    · rename_i ks e
      cases h
      obtain ⟨gs, h3, _⟩ := s.cell n _ a e hn
      exact ⟨_, rfl, .base (.dK h3)⟩
    · rename_i c fs e
      cases h
      obtain ⟨C, dx, gs, hc, h3, _⟩ := s.cell n _ a e hn
      exact ⟨_, by simp only [kdT, hc]; rfl, insT hc h3⟩
    · cases h
/-- the table of a class's isinstance -/
def IsT (K : PySem.W.Frag) (G : Ga) (u : Value) (tab : Kd → Option Bool) : Prop := ∀ kd t b, kdT G kd = some t → tab kd = some b → PySem.W.kitOne K t u = some b
def eIsi (tab : Kd → Option Bool) (fo : EvE) : EvE := fun ρ S => (fo ρ S).bind fun o => match kdD o.2 o.1 with
  | some kd => match tab kd with
    | some b => .ok (.bl b, o.2)
    | none => .bad
  | none => .bad
theorem x_isi {tab : Kd → Option Bool} {c : Expr} {cv : V} {u : Value} (W : Wf X G) (WI : WfI G.K G) (ho : PE X e (tX G E fo)) (hc : PE X c (tC cv)) (hu : ClsV cv u) (hT : IsT X.K G u tab) (hm : X.mg "isinstance" = none) (hg : Gl X "isinstance" := by rfl) (hv : bootBuiltins "isinstance" = some (.builtin "isinstance") := by rfl)
    (he : starEach [e, c] X.env = (false, eval e X.env) :: starEach [c] X.env := by rfl) (he2 : starEach [c] X.env = (false, eval c X.env) :: starEach [] X.env := by rfl) (hpl : (backTo pos (starEach [c] X.env)).any (·.1) = false := by rfl) :
    PE X (.Call (.Name "isinstance" p) [e, c] [] pos) (tX G E (eIsi tab fo)) :=
  PE.weak (pe_callB call_isi hg hm hv (pa_cons ho (pa_cons hc pa_nil he2) he) (by decide) (by decide) he hpl) fun σ H Q ⟨F, ρ, m, S, hE, hS, h⟩ => tX_bind hE hS h fun d S1 v H1 m1 _ k1 e1 s1 r1 h1 => by
    cases q : kdD S1 d with
    | none => simp only [q] at h1; exact h1.elim
    | some kd =>
      simp only [q] at h1
      cases q2 : tab kd with
      | none => simp only [q2] at h1; exact h1.elim
      | some b =>
        simp only [q2] at h1
        obtain ⟨t, ht, ty⟩ := kd_ok WI s1 r1 q
        exact ⟨v, cv, t, u, b, rfl, hu, by rw [W.K]; exact ty, hT kd t b ht q2, RunE.here h1 s1 (.bl _)⟩
/-- .. as a test -/
theorem x_isiB {tab : Kd → Option Bool} {T : String} {y : Str} {py' : Pos} (W : Wf X G) (WI : WfI G.K G) (ho : PE X e (tX G E fo)) (hT : IsT X.K G (.type T) tab) (hm : X.mg "isinstance" = none) (hmy : X.mg y = none) (hvy : bootBuiltins y = some (.type T) := by rfl) (hgy : Gl X y := by rfl)
    (hg : Gl X "isinstance" := by rfl) (hn : y ≠ "__name__" := by decide) (hd : (y == ("__debug__" : Str)) = false := by decide)
    (he : starEach [e, .Name y py'] X.env = (false, eval e X.env) :: starEach [.Name y py'] X.env := by rfl) (he2 : starEach [.Name y py'] X.env = (false, eval (.Name y py') X.env) :: starEach [] X.env := by rfl) (hpl : (backTo pos (starEach [.Name y py'] X.env)).any (·.1) = false := by rfl) :
    PE X (.Call (.Name "isinstance" p) [e, .Name y py'] [] pos) (tX G E (eIsi tab fo)) := x_isi W WI ho (pe_bltn hgy hmy hvy (show RelV (.ty T) (.type T) from rfl) hn hd) (.ty T) hT hm hg rfl he he2 hpl
theorem x_isiO {tab : Kd → Option Bool} {D0 : Addr} {y : Str} {py' : Pos} (W : Wf X G) (WI : WfI G.K G) (ho : PE X e (tX G E fo)) (hT : IsT X.K G (.ref D0) tab) (hm : X.mg "isinstance" = none) (hmy : X.mg y = some (.ref D0)) (hgy : Gl X y := by rfl)
    (hg : Gl X "isinstance" := by rfl) (hd : (y == ("__debug__" : Str)) = false := by decide)
    (he : starEach [e, .Name y py'] X.env = (false, eval e X.env) :: starEach [.Name y py'] X.env := by rfl) (he2 : starEach [.Name y py'] X.env = (false, eval (.Name y py') X.env) :: starEach [] X.env := by rfl) (hpl : (backTo pos (starEach [.Name y py'] X.env)).any (·.1) = false := by rfl) :
    PE X (.Call (.Name "isinstance" p) [e, .Name y py'] [] pos) (tX G E (eIsi tab fo)) := x_isi W WI ho (pe_glob hgy hmy (show RelV (.ref D0) (.ref D0) from rfl) hd) (.own D0) hT hm hg rfl he he2 hpl

/-! ### bool -/
/-- the objects' truth: True, if the class has neither __bool__ nor __len__ -/
structure TruC (K : PySem.W.Frag) (C : Addr) : Prop where
  nb : PySem.W.findIn K (.ref C) "__bool__" = some none
  nl : PySem.W.findIn K (.ref C) "__len__" = some none
end
end Pd
end
section
/-! Pd, part O: == and != where own objects stand on a side. -/
namespace Pd
open PySem PySem.Spec PyProof.Rows L2

section
variable {prog : Program} {w : World} {A : Around} {E : Value → Shared → Prop} {s : Shared} {a : Addr} {ox : Obj} {K : PySem.W.Frag} {C dx : Addr} {od : Option Obj}
open AutoSeq1 (wpAny_loadPart')
/-- T's own == has no word on v and the object at a -/
def Declines (prog : Program) (w : World) (A : Around) (E : Value → Shared → Prop) (s : Shared) (id : String) (v : Value) (a : Addr) : Prop := ∀ Q : Value → Shared → Prop, Q .notImplemented s → wpAny (model prog w) A (call (.builtin id) [v, .ref a]) Q E s
theorem dec_none : Declines prog w A E s "NoneType.__eq__" .none a := fun _ hq => call_gives F.slot_NoneType_eq rfl F.entry_NoneType_eq (F.args_NoneType_eq_2 _ _) (SeqAt.NoneType___eq___none_ref_0 a) hq
theorem mt_dec_bool (b : Bool) (a C dx : Addr) : Meets (Builtin.«int.__eq__» ⟨[.bool b, .ref a], []⟩) (fun _ R s => s.heap.get? a = some (PySem.W.instObj C dx) ∧ R (.ok (.ret .notImplemented)) s) := .of_wp fun prog w A R s h => by
  obtain ⟨hp, g, d, tk, os⟩ := s
  obtain ⟨hl, h⟩ := h
  wp_walk using wpAny_loadPart' hl, wpAny_load hl
  exact ⟨_, rfl, h⟩
theorem mt_dec_int (b : Int) (u : Tok) (a C dx : Addr) : Meets (Builtin.«int.__eq__» ⟨[.int b u, .ref a], []⟩) (fun _ R s => s.heap.get? a = some (PySem.W.instObj C dx) ∧ R (.ok (.ret .notImplemented)) s) := .of_wp fun prog w A R s h => by
  obtain ⟨hp, g, d, tk, os⟩ := s
  obtain ⟨hl, h⟩ := h
  wp_walk using wpAny_loadPart' hl, wpAny_load hl
  exact ⟨_, rfl, h⟩
theorem mt_dec_str (b : Str) (u : Tok) (a C dx : Addr) : Meets (Builtin.«str.__eq__» ⟨[.str b u, .ref a], []⟩) (fun _ R s => s.heap.get? a = some (PySem.W.instObj C dx) ∧ R (.ok (.ret .notImplemented)) s) := .of_wp fun prog w A R s h => by
  obtain ⟨hp, g, d, tk, os⟩ := s
  obtain ⟨hl, h⟩ := h
  wp_walk using wpAny_loadPart' hl, wpAny_load hl
  exact ⟨_, rfl, h⟩
theorem inst_no {M : Model} {T : String} {Q : Bool → Shared → Prop} (X : K.In s.heap) (J : PySem.W.InstAt s.heap a ox C od) (e : PySem.W.subIn K (.ref C) (.type T) = some false) (h : Q false s) : wpAny M A (isInstance (.ref a) (.type T)) Q E s :=
  wpAny_bind (J.type.here ((PySem.W.looks_subIn X e).here h))
theorem mt_dec_list (l a C : Addr) (K : PySem.W.Frag) (e : PySem.W.subIn K (.ref C) (.type "list") = some false) : Meets (Builtin.«list.__eq__» ⟨[.ref l, .ref a], []⟩) (fun _ R s => K.In s.heap ∧ (∃ ox od, PySem.W.InstAt s.heap a ox C od) ∧ R (.ok (.ret .notImplemented)) s) := .of_wp fun prog w A R s ⟨X, ⟨ox, od, J⟩, h⟩ => by
  refine wpAny_bind (m := slotArgs "__eq__" 1 _) (wpAny_pure ?_)
  refine wpAny_bind (inst_no X J e ?_)
  exact wpAny_pure ⟨_, rfl, h⟩
theorem mt_dec_tuple (l a C : Addr) (K : PySem.W.Frag) (e : PySem.W.subIn K (.ref C) (.type "tuple") = some false) : Meets (Builtin.«tuple.__eq__» ⟨[.ref l, .ref a], []⟩) (fun _ R s => K.In s.heap ∧ (∃ ox od, PySem.W.InstAt s.heap a ox C od) ∧ R (.ok (.ret .notImplemented)) s) := .of_wp fun prog w A R s ⟨X, ⟨ox, od, J⟩, h⟩ => by
  refine wpAny_bind (m := slotArgs "__eq__" 1 _) (wpAny_pure ?_)
  refine wpAny_bind (inst_no X J e ?_)
  exact wpAny_pure ⟨_, rfl, h⟩
theorem dec_bool {b : Bool} (hl : s.heap.get? a = some (PySem.W.instObj C dx)) : Declines prog w A E s "int.__eq__" (.bool b) a := fun _ hq => call_meets F.slot_bool_eq rfl F.entry_int_eq (F.args_int_eq_2 _ _) (mt_dec_bool b a C dx) ⟨hl, hq⟩
theorem dec_int {b : Int} {u : Tok} (hl : s.heap.get? a = some (PySem.W.instObj C dx)) : Declines prog w A E s "int.__eq__" (.int b u) a := fun _ hq => call_meets F.slot_int_eq (typeIs_int s b u) F.entry_int_eq (F.args_int_eq_2 _ _) (mt_dec_int b u a C dx) ⟨hl, hq⟩
theorem dec_str {b : Str} {u : Tok} (hl : s.heap.get? a = some (PySem.W.instObj C dx)) : Declines prog w A E s "str.__eq__" (.str b u) a := fun _ hq => call_meets F.slot_str_eq (typeIs_str s b u) F.entry_str_eq (F.args_str_eq_2 _ _) (mt_dec_str b u a C dx) ⟨hl, hq⟩
theorem dec_list {l : Addr} (hT : s.TypeIs (.ref l) "list") (X : K.In s.heap) (J : PySem.W.InstAt s.heap a ox C od) (e : PySem.W.subIn K (.ref C) (.type "list") = some false) : Declines prog w A E s "list.__eq__" (.ref l) a := fun _ hq =>
  call_meets F.slot_list_eq hT F.entry_list_eq (F.args_list_eq_2 _ _) (mt_dec_list l a C K e) ⟨X, ⟨ox, od, J⟩, hq⟩
theorem dec_tuple {l : Addr} (hT : s.TypeIs (.ref l) "tuple") (X : K.In s.heap) (J : PySem.W.InstAt s.heap a ox C od) (e : PySem.W.subIn K (.ref C) (.type "tuple") = some false) : Declines prog w A E s "tuple.__eq__" (.ref l) a := fun _ hq =>
  call_meets F.slot_tuple_eq hT F.entry_tuple_eq (F.args_tuple_eq_2 _ _) (mt_dec_tuple l a C K e) ⟨X, ⟨ox, od, J⟩, hq⟩
theorem dec_dict {l : Addr} (hT : s.TypeIs (.ref l) "dict") (X : K.In s.heap) (J : PySem.W.InstAt s.heap a ox C od) (e : PySem.W.subIn K (.ref C) (.type "dict") = some false) : Declines prog w A E s "dict.__eq__" (.ref l) a := fun Q hq => by
  refine wpAny_call_entry PySem.F.slot_dict_eq hT PySem.F.entry_dict_eq ?_ (PySem.F.args_dict_eq_2 _ _)
  show wpAny _ _ (Builtin.Dict.dictSlotArgs "__eq__" ⟨[.ref l, .ref a], []⟩ >>= _) _ _ s
  unfold Builtin.Dict.dictSlotArgs
  refine wpAny_bind (wpAny_bind (wpAny_notOrdered_dict hT (show wpAny _ _ (pure (Value.ref l, Value.ref a)) _ _ s from wpAny_pure ?_)))
  refine wpAny_bind (inst_no X J e ?_)
  exact wpAny_bind (wpAny_rule (wpAny_bind (wpAny_pure (wpAny_pure ⟨_, rfl, hq⟩))))
/-- v == o, v of a built-in type that has no word on o -/
theorem eq_right {T id : String} {v : Value} {f : Addr} {Q : Value → Shared → Prop} (hu : A.units < cLine) (X : K.In s.heap) (hT : s.TypeIs v T) (slot : Slot T (cmpInfo .Eq).2.1 id) (dec : Declines prog w A E s id v a) (J : PySem.W.InstAt s.heap a ox C od)
    (hsub : PySem.W.subIn K (.ref C) (.type T) = some false) (hs : PySem.W.findIn K (.ref C) "__eq__" = some (some (.ref f))) (hf : PySem.W.isFn K (.ref f) = true) (h : wpAny (model prog w) A (call (.ref f) [.ref a, v]) (PySem.W.CmpBack Q) E s) : wpAny (model prog w) A (richCompare .Eq v (.ref a)) Q E s := by
  have one : wpAny (model prog w) A (tryCompare (.ref a) "__eq__" v) (fun r s' => ∃ z, r = some z ∧ Q z s') E s := by
    unfold tryCompare
    refine wpAny_bind (PySem.W.ifBound_K X J hs hf (wpAny_mono h (fun z s' hz => ?_) fun _ _ e => e))
    cases z <;> first | exact hz.elim | exact wpAny_pure ⟨_, rfl, hz⟩
  simp only [richCompare, hT.oneThing_none]
  refine wpAny_holding (wpAny_bind (wpAny_cRoomFor hu ?_))
  refine wpAny_bind (wpAny_typeOf hT (wpAny_bind (J.type.here ?_)))
  rw [if_pos (show (Value.type T != Value.ref C) = true from rfl)]
  refine wpAny_bind ((PySem.W.looks_subIn X hsub).here ?_)
  simp only [Bool.false_eq_true, if_false, Bool.not_false, if_true]
  refine wpAny_bind (m := tryCompare v _ (.ref a)) (wpAny_tryCompare_declines hT slot (dec _ ⟨rfl, ?_⟩))
  refine wpAny_bind (m := tryCompare (.ref a) _ v) (wpAny_mono one (fun r s' z => ?_) fun _ _ e => e)
  obtain ⟨z, rfl, hq⟩ := z
  exact wpAny_pure hq
/-- o != b by object's own != and the class's == -/
theorem ne_left {tb b : Value} {f : Addr} {Q : Value → Shared → Prop} (hu : A.units + 1 < cLine) (X : K.In s.heap) (J : PySem.W.InstAt s.heap a ox C od) (hb : PySem.W.Looks (model prog w) s.heap (typeOf b) tb) (hn : PySem.W.notFirst K C tb = true)
    (hne : PySem.W.findIn K (.ref C) "__ne__" = some (some (.builtin "object.__ne__"))) (htop : PySem.W.subIn K (.ref C) (.type "object") = some true) (hs : PySem.W.findIn K (.ref C) "__eq__" = some (some (.ref f))) (hf : PySem.W.isFn K (.ref f) = true)
    (h : wpAny (model prog w) A.in1 (call (.ref f) [.ref a, b]) (fun u s' => ∃ z, u = .bool z ∧ Q (.bool (!z)) s') E s) : wpAny (model prog w) A (richCompare .NotEq (.ref a) b) Q E s := by
  have call1 : wpAny (model prog w) A (call (.builtin "object.__ne__") [.ref a, b]) (fun u s' => ∃ z, u = .bool z ∧ Q u s') E s := by
    refine wpAny_call (codeAny_call_builtin F.slot_object_ne.plain F.entry_object_ne (PySem.W.check_slot (owner := "object") (n := "__ne__") (by decide +kernel) (by decide +kernel) (J.type.andThen (PySem.W.looks_subIn X htop)) (F.args_object_ne_2 _ _) ?_))
    unfold Builtin.«object.__ne__»
    refine wpAny_bind (m := slotArgs "__ne__" 1 _) (wpAny_pure ?_)
    refine wpAny_bind (wpAny_cRoomFor (by exact hu) ?_)
    refine wpAny_bind (m := callSpecialIfBound? (.ref a) "__eq__" [b]) (PySem.W.ifBound_K X J hs hf (wpAny_mono h (fun u s' hq => ?_) fun _ _ e => e))
    obtain ⟨z, rfl, hq⟩ := hq
    exact wpAny_bind (wpAny_truthy_bool (wpAny_pure ⟨_, rfl, hq⟩))
  have one : wpAny (model prog w) A (tryCompare (.ref a) "__ne__" b) (fun r s' => ∃ z, r = some z ∧ Q z s') E s := by
    unfold tryCompare
    simp only [callSpecialIfBound?, bindSpecialIfBound?]
    refine wpAny_bind (wpAny_holding (wpAny_bind (wpAny_bind (wpAny_bind (J.type.here ((PySem.W.looks_findIn X hne).here ?_))))))
    refine wpAny_bind (wpAny_askSetting (wpAny_ite ?_))
    have fin : wpAny (model prog w) A (call (.builtin "object.__ne__") ([.ref a] ++ [b]) >>= fun v => pure (some v)) (fun r s' => wpAny (model prog w) A (match r with
        | some .notImplemented | none => pure none
        | some v => pure (some v)) (fun r s' => ∃ z, r = some z ∧ Q z s') E s') E s := wpAny_bind (wpAny_mono call1 (fun u s' hq => by
      obtain ⟨z, rfl, q⟩ := hq
      exact wpAny_pure (wpAny_pure ⟨_, rfl, q⟩)) fun _ _ e => e)
    have hbd := F.slot_object_ne.bind (.ref a)
    split
    · exact wpAny_bind (wpAny_of_eq hbd (wpAny_pure (by exact fin)))
    · exact wpAny_tryCatch (wpAny_bind (wpAny_of_eq hbd (wpAny_pure (by exact fin))))
  unfold richCompare
  simp only [oneThing_ref]
  refine wpAny_holding (wpAny_bind (wpAny_cRoomFor (by omega) ?_))
  refine wpAny_bind (J.type.here (wpAny_bind (hb.here ?_)))
  have last : ∀ k : Option Value → Sem Value, (∀ v, k (some v) = pure v) → wpAny (model prog w) A (tryCompare (.ref a) (cmpInfo .NotEq).2.1 b >>= k) Q E s := fun k hk => wpAny_bind (wpAny_mono one (fun r s' z => by
    obtain ⟨v, rfl, hq⟩ := z
    rw [hk v]
    exact wpAny_pure hq) fun _ _ e => e)
  split
  · rename_i q
    have e : PySem.W.subIn K tb (.ref C) = some false := by
      rcases Bool.or_eq_true_iff.mp hn with e | e
      · rw [beq_iff_eq.mp e] at q; simp at q
      · exact beq_iff_eq.mp e
    refine wpAny_bind ((PySem.W.looks_subIn X e).here ?_)
    simp only [Bool.false_eq_true, if_false]
    exact last _ fun _ => rfl
  · refine wpAny_bind (wpAny_pure ?_)
    simp only [Bool.false_eq_true, if_false]
    exact last _ fun _ => rfl
end
end Pd
end
section
/-! Pd, part P: comparisons by what a def does; bool; stepped slices; f-strings. -/
namespace Pd
open PySem PySem.Spec PyProof.Rows L2

section
variable {μ : Mu} {X : Cx} {G : Ga} {E : XK} {k : Nat} {a b : Expr} {fa fb : EvE} {pos : Pos}
/-- an operation by what it does with data and the store -/
abbrev Go := Store → D → D → Res (D × Store)
def rD (G : Ga) (E : XK) (g : Go) : R2 := fun x y H Q => ∃ F S m dx dy, SR G F H m S ∧ VD G H m (lw F m S) dx x ∧ VD G H m (lw F m S) dy y ∧ RunE G E F (g S dx dy) H m (lv m S) Q
def eBinR (g : Go) (fa fb : EvE) : EvE := fun ρ S => (fa ρ S).bind fun p => (fb ρ p.2).bind fun q => g q.2 p.1 q.1
theorem x_cmpR {g : Go} {op : CmpOp} (ha : PE X a (tX G E fa)) (hb : PE X b (tX G E fb)) (ho : OpR X (compareOp op) (rD G E g)) (hm : behindInMarks op b = false := by first | exact nobehind _ (by decide) (by decide) | rfl) : PE X (.Compare a [op] [b] pos) (tX G E (eBinR g fa fb)) :=
  PE.weak (pe_cmpR ho ha hb hm) fun σ H Q ⟨F, ρ, m, S, hE, hS, h⟩ => tX_bind hE hS h fun d S1 v H1 m1 _ k1 e1 s1 r1 h1 => tX_bind e1 s1 h1 fun d2 S2 v2 H2 m2 _ k2 e2 s2 r2 h2 => ⟨F, S2, m2, d, d2, s2, r1.mono k2, r2, h2⟩

/-- the class has its own ==: what it does with two; how it stands to other types -/
structure DunQ (μ : Mu) (X : Cx) (G : Ga) (k : Nat) (c : Nat) (fF : FD) : Prop where
  ex : ∃ (C g : Addr) (fd : FuncData) (ps : List Str), G.cls[c]? = some C ∧ PySem.W.findIn X.K (.ref C) "__eq__" = some (some (.ref g)) ∧ PySem.W.isFn X.K (.ref g) = true ∧ FnG μ X.prog X.w X.K X.mg X.base k g fd ps (spD G 2 fF) ∧ BP X.K fd ps 2 [] [] [0, 1] ∧
    (∀ kd t, kdT G kd = some t → PySem.W.notFirst X.K C t = true) ∧ (∀ T : String, ["NoneType", "bool", "int", "str", "list", "tuple", "dict"].contains T = true → PySem.W.subIn X.K (.ref C) (.type T) = some false) ∧
    PySem.W.findIn X.K (.ref C) "__ne__" = some (some (.builtin "object.__ne__")) ∧ PySem.W.subIn X.K (.ref C) (.type "object") = some true
def DunQs (μ : Mu) (X : Cx) (G : Ga) (k : Nat) (tbl : List (Nat × FD)) : Prop := ∀ c fF, tbl.lookup c = some fF → DunQ μ X G k c fF
theorem dunqs_nil : DunQs μ X G k [] := fun _ _ h => by cases h
theorem dunqs_cons {c : Nat} {fF : FD} {tbl : List (Nat × FD)} (h : DunQ μ X G k c fF) (t : DunQs μ X G k tbl) : DunQs μ X G k ((c, fF) :: tbl) := fun d gF e => by
  by_cases q : d = c
  · subst q
    simp [List.lookup] at e
    subst e
    exact h
  · have b : (d == c) = false := by simpa using q
    simp only [List.lookup, b] at e
    exact t d gF e
def onlyB (neg : Bool) (r : Res (D × Store)) : Res (D × Store) := r.bind fun q => match q.1 with
  | .bl b => .ok (.bl (neg != b), q.2)
  | _ => .bad
def blQ (neg : Bool) (Q : VK) : VK := fun v H => ∃ y, v = .bl y ∧ Q (.bl (neg != y)) H
theorem onlyB_run {neg : Bool} {F : List Addr} {r : Res (D × Store)} {H : Hp} {m L : List Addr} {Q : VK} (h : RunE G E F (onlyB neg r) H m L Q) : RunE G E F r H m L (blQ neg Q) := by
  cases r with
  | ok q =>
    obtain ⟨d, S⟩ := q
    intro v H' m' k s rv
    cases rv with
    | bl y => exact ⟨y, rfl, h _ _ m' k s (.bl _)⟩
    | _ => exact h.elim
  | exc y S => exact h
  | bad => exact h
/-- the kind, where the object is of a built-in type -/
def bltD (S : Store) (d : D) : Bool := match kdD S d with
  | some (.ins _) => false
  | some _ => true
  | none => false
def eqO (tbl : List (Nat × FD)) : Go := fun S x y => match fldsD S x with
  | some (c, _) => match tbl.lookup c with
    | some fF => if (kdD S y).isSome = true then onlyB false (fF [x, y] S) else .bad
    | none => .bad
  | none => match fldsD S y with
    | some (c, _) => match tbl.lookup c with
      | some fF => if bltD S x = true then onlyB false (fF [y, x] S) else .bad
      | none => .bad
    | none => ofO S (eqD S x y)
def neO (tbl : List (Nat × FD)) : Go := fun S x y => match fldsD S x with
  | some (c, _) => match tbl.lookup c with
    | some fF => if (kdD S y).isSome = true then onlyB true (fF [x, y] S) else .bad
    | none => .bad
  | none => match fldsD S y with
    | some _ => .bad
    | none => ofO S (neD S x y)
/-- such a method, run at A with two -/
theorem dun_run2 {g : Addr} {fd : FuncData} {ps : List Str} {sp : Sp} {A : Around} {pins : List (Addr × Obj)} {σ : L2.St} {H : Hp} {s : Shared} {v1 v2 : V} {u1 u2 : Value} {Q : VK} (hF : FnG μ X.prog X.w X.K X.mg X.base k g fd ps sp) (hA : A.guards = some []) (hr : RmA μ k A X.stack H s) (hf : A.frames = X.A.frames) (hb : BP X.K fd ps 2 [] [] [0, 1])
    (hx : Passes (L2N.CX X.prog X.w) X E) (I : Inv X pins σ H s) (r1 : RelV v1 u1) (r2 : RelV v2 u2) (h : sp [v1, v2] H Q E) : wpAny (model X.prog X.w) A (call (.ref g) [u1, u2]) (EP X pins σ Q) X.xe s :=
  wpAny_call (codeAny_mono (run_bp (us := [u1, u2]) (vs := [v1, v2]) (ws := []) (zs := []) hF hA hr ⟨by rw [hf]; exact I.env0.frames, I.env0.mod, I.env0.bs, I.env0.bsz, I.env0.funs, I.env0.frf, I.env0.hok, I.env0.bare⟩ hb hx I (.cons r1 (.cons r2 .nil)) .nil rfl rfl h) fun res s' hq => by
    cases res with
    | error er => exact hq
    | ok fl => cases fl <;> first | exact hq | exact False.elim hq)
/-- the type of what a value stands for -/
theorem looks_type {pins : List (Addr × Obj)} {σ : L2.St} {H : Hp} {s : Shared} {v : V} {u t : Value} (I : Inv X pins σ H s) (r : RelV v u) (ty : TyX X.K H v t) : PySem.W.Looks (model X.prog X.w) s.heap (typeOf u) t :=
  let ⟨_, Z, p, _⟩ := kit_of I r ty
  Z.ty _ _ I.kIn p
abbrev blts : List String := ["NoneType", "bool", "int", "str", "list", "tuple", "dict"]
theorem dec_of {pins : List (Addr × Obj)} {σ : L2.St} {H : Hp} {s : Shared} {Fs : List Addr} {m : List Addr} {S : Store} {x : D} {v : V} {u : Value} {o C dx : Addr} {ox : Obj} {od : Option Obj} {A : Around} {Ee : Value → Shared → Prop} (I : Inv X pins σ H s) (W : Wf X G) (sr : SR G Fs H m S) (r : VD G H m (lw Fs m S) x v) (hb : bltD S x = true) (ru : RelV v u)
    (hl : s.heap.get? o = some (PySem.W.instObj C dx)) (J : PySem.W.InstAt s.heap o ox C od) (hns : ∀ T : String, blts.contains T = true → PySem.W.subIn X.K (.ref C) (.type T) = some false) :
    ∃ T id, blts.contains T = true ∧ s.TypeIs u T ∧ Slot T (cmpInfo .Eq).2.1 id ∧ Declines X.prog X.w A Ee s id u o := by
  have lst : ∀ {a : Addr} {ys : List V}, SqL X.K H a ys → s.TypeIs (.ref a) "list" := fun h => by
    obtain ⟨its, _, pl, _⟩ := I.list h
    exact pl.isList.typeIs
  have tup : ∀ {a : Addr} {ys : List V}, SqT X.K H a ys → s.TypeIs (.ref a) "tuple" := fun h => by
    obtain ⟨its, _, ⟨ob, ho, hc, _⟩, _⟩ := I.tuple h
    exact ⟨ob, ho, hc⟩
  have dct : ∀ {a : Addr} {ks : List (Key × V)}, H a = some (.dK ks) → s.TypeIs (.ref a) "dict" := fun h => by
    obtain ⟨_, _, _, _, ob, _, _, e, ex, _⟩ := I.hok _ _ h
    exact ⟨ob, e, ex.1⟩
  have goL : ∀ {a : Addr} {ys : List V}, SqL X.K H a ys → u = .ref a → ∃ T id, blts.contains T = true ∧ s.TypeIs u T ∧ Slot T (cmpInfo .Eq).2.1 id ∧ Declines X.prog X.w A Ee s id u o := fun h e => by
    subst e
    exact ⟨"list", _, by decide, lst h, F.slot_list_eq, dec_list (lst h) I.kIn J (hns _ (by decide))⟩
  have goD : ∀ {a : Addr} {ks : List (Key × V)}, H a = some (.dK ks) → u = .ref a → ∃ T id, blts.contains T = true ∧ s.TypeIs u T ∧ Slot T (cmpInfo .Eq).2.1 id ∧ Declines X.prog X.w A Ee s id u o := fun h e => by
    subst e
    exact ⟨"dict", _, by decide, dct h, PySem.F.slot_dict_eq, dec_dict (dct h) I.kIn J (hns _ (by decide))⟩
  cases r with
  | non => cases ru; exact ⟨"NoneType", _, by decide, rfl, F.slot_NoneType_eq, dec_none⟩
  | bl b => cases ru; exact ⟨"bool", _, by decide, rfl, F.slot_bool_eq, dec_bool hl⟩
  | int i => obtain ⟨t, rfl⟩ := ru; exact ⟨"int", _, by decide, typeIs_int s i t, F.slot_int_eq, dec_int hl⟩
  | str y => obtain ⟨t, rfl⟩ := ru; exact ⟨"str", _, by decide, typeIs_str s y t, F.slot_str_eq, dec_str hl⟩
  | tup hx _ =>
    have hx' := hx.sq
    rw [← W.K] at hx'
    cases ru
    exact ⟨"tuple", _, by decide, tup hx', F.slot_tuple_eq, dec_tuple (tup hx') I.kIn J (hns _ (by decide))⟩
  | lst hx _ _ => exact goL (SqL.of hx) ru
  | scr hx _ =>
    have hx' := hx.sq
    rw [← W.K] at hx'
    exact goL hx' ru
  | ins _ _ _ _ => cases hb
  | dct hx _ _ => exact goD hx ru
  | ext _ _ _ _ => cases hb
  | cl _ => cases hb
  | exn _ _ _ => cases hb
  | ref hn =>
    rename_i n a
    unfold bltD kdD at hb
    simp only at hb
    cases q : S[n]? with
    | none => simp [q] at hb
    | some c =>
      cases c with
      | dead => simp [q] at hb
      | ins _ _ => simp [q] at hb
      | tbl _ => simp [q] at hb
      | lst xs =>
        obtain ⟨ys, h3, _⟩ := sr.list q hn
        exact goL (SqL.of h3) ru
      | dct ks =>
        obtain ⟨gs, h3, _⟩ := sr.cell n _ a q hn
        exact goD h3 ru
theorem blQ_out {pins : List (Addr × Obj)} {σ : L2.St} {Q : VK} {u : Value} {s : Shared} (h : EP X pins σ (blQ false Q) u s) : PySem.W.CmpBack (EP X pins σ Q) u s := by
  obtain ⟨v, H', I', rv, y, rfl, q⟩ := h
  cases rv
  have q' : Q (.bl y) H' := by simpa using q
  exact ⟨.bl y, H', I', rfl, q'⟩
theorem blQ_neg {pins : List (Addr × Obj)} {σ : L2.St} {Q : VK} {u : Value} {s : Shared} (h : EP X pins σ (blQ true Q) u s) : ∃ z, u = .bool z ∧ EP X pins σ Q (.bool (!z)) s := by
  obtain ⟨v, H', I', rv, y, rfl, q⟩ := h
  cases rv
  have q' : Q (.bl (!y)) H' := by simpa using q
  exact ⟨y, rfl, .bl (!y), H', I', rfl, q'⟩
theorem op_eqO {tbl : List (Nat × FD)} (W : Wf X G) (WI : WfI G.K G) (ht : DunQs μ X G k tbl) (hr : Rm μ k X) (hx : Passes (L2N.CX X.prog X.w) X E) : OpR X (compareOp .Eq) (rD G E (eqO tbl)) := by
  intro pins s σ H x y u v Q I rx ry ⟨F, S, m, dx, dy, sr, r1, r2, h⟩
  unfold eqO at h
  cases q1 : fldsD S dx with
  | some z =>
    obtain ⟨c, fs⟩ := z
    simp only [q1] at h
    cases q2 : tbl.lookup c with
    | none => simp only [q2] at h; exact h.elim
    | some fF =>
      simp only [q2] at h
      split at h
      · rename_i hk
        obtain ⟨kd, ek⟩ := Option.isSome_iff_exists.mp hk
        obtain ⟨t, et, ty⟩ := kd_ok WI sr r2 ek
        obtain ⟨C, g, fd, ps, hC, hs, hf, hF, hb, hnf, _⟩ := (ht c fF q2).ex
        obtain ⟨a, C', ddx, gs, rfl, hc', ha, _⟩ := flds_ok sr r1 q1
        rw [hC] at hc'; cases hc'
        cases rx
        obtain ⟨mA, O, _⟩ := ins_get I.hok ha
        obtain ⟨od, J, _⟩ := O.look
        obtain ⟨m0, hFr⟩ := I.fr
        rw [← W.K] at ty
        exact PySem.W.cmp_K (op := .Eq) (by have := W.units; omega) hFr I.ok.mod.kin J (looks_type I ry ty) (hnf kd t et) hs hf (thn (dun_run2 (A := X.A) hF W.guards (hr.at I) rfl hb hx I (show RelV (.ref a) (.ref a) from rfl) ry ⟨rfl, F, [dx, dy], m, S, .cons r1 (.cons r2 .nil), sr, onlyB_run h⟩) fun _ _ z => blQ_out z)
      · exact h.elim
  | none =>
    simp only [q1] at h
    cases q3 : fldsD S dy with
    | some z =>
      obtain ⟨c, fs⟩ := z
      simp only [q3] at h
      cases q2 : tbl.lookup c with
      | none => simp only [q2] at h; exact h.elim
      | some fF =>
        simp only [q2] at h
        split at h
        · rename_i hk
          obtain ⟨C, g, fd, ps, hC, hs, hf, hF, hb, _, hns, _⟩ := (ht c fF q2).ex
          obtain ⟨a, C', ddx, gs, rfl, hc', ha, _⟩ := flds_ok sr r2 q3
          rw [hC] at hc'; cases hc'
          cases ry
          obtain ⟨mA, O, _⟩ := ins_get I.hok ha
          obtain ⟨od, J, _⟩ := O.look
          obtain ⟨T, id, hT, h3, h4, h5⟩ := dec_of (A := X.A) (Ee := X.xe) I W sr r1 hk rx O.obj J hns
          exact eq_right (by have := W.units; omega) I.kIn h3 h4 h5 J (hns T hT) hs hf (thn (dun_run2 (A := X.A) hF W.guards (hr.at I) rfl hb hx I (show RelV (.ref a) (.ref a) from rfl) rx ⟨rfl, F, [dy, dx], m, S, .cons r2 (.cons r1 .nil), sr, onlyB_run h⟩) fun _ _ z => blQ_out z)
        · exact h.elim
    | none =>
      simp only [q3] at h
      exact op_eqD (by have := W.units; omega) pins s σ H x y u v Q I rx ry (by
        have z := ops_eq (G := G) (E := E) F S H m dx dy x y Q sr r1 r2 h
        rw [← W.K] at z
        exact z)
theorem op_neO {tbl : List (Nat × FD)} (W : Wf X G) (WI : WfI G.K G) (ht : DunQs μ X G k tbl) (hr : Rm μ (k + 1) X) (hx : Passes (L2N.CX X.prog X.w) X E) : OpR X (compareOp .NotEq) (rD G E (neO tbl)) := by
  intro pins s σ H x y u v Q I rx ry ⟨F, S, m, dx, dy, sr, r1, r2, h⟩
  unfold neO at h
  cases q1 : fldsD S dx with
  | some z =>
    obtain ⟨c, fs⟩ := z
    simp only [q1] at h
    cases q2 : tbl.lookup c with
    | none => simp only [q2] at h; exact h.elim
    | some fF =>
      simp only [q2] at h
      split at h
      · rename_i hk
        obtain ⟨kd, ek⟩ := Option.isSome_iff_exists.mp hk
        obtain ⟨t, et, ty⟩ := kd_ok WI sr r2 ek
        obtain ⟨C, g, fd, ps, hC, hs, hf, hF, hb, hnf, _, hne, htop⟩ := (ht c fF q2).ex
        obtain ⟨a, C', ddx, gs, rfl, hc', ha, _⟩ := flds_ok sr r1 q1
        rw [hC] at hc'; cases hc'
        cases rx
        obtain ⟨mA, O, _⟩ := ins_get I.hok ha
        obtain ⟨od, J, _⟩ := O.look
        rw [← W.K] at ty
        exact ne_left (by have := W.units; omega) I.kIn J (looks_type I ry ty) (hnf kd t et) hne htop hs hf (thn (dun_run2 (A := X.A.in1) hF W.guards (hr.at I).in1 rfl hb hx I (show RelV (.ref a) (.ref a) from rfl) ry ⟨rfl, F, [dx, dy], m, S, .cons r1 (.cons r2 .nil), sr, onlyB_run h⟩) fun _ _ z => blQ_neg z)
      · exact h.elim
  | none =>
    simp only [q1] at h
    cases q3 : fldsD S dy with
    | some z => simp only [q3] at h; exact h.elim
    | none =>
      simp only [q3] at h
      exact op_neD (by have := W.units; omega) pins s σ H x y u v Q I rx ry (by
        have z := ops_ne (G := G) (E := E) F S H m dx dy x y Q sr r1 r2 h
        rw [← W.K] at z
        exact z)
end
end Pd
end
section
/-! Pd, part Q: bool of objects; stepped slices, displays with a star; f-strings; targets with a place. -/
namespace Pd
open PySem PySem.Spec PyProof.Rows L2

section
variable {K : PySem.W.Frag} {s : Shared} {a C : Addr} {ox : Obj} {od : Option Obj}
theorem truthy_inst {M : Model} {A : Around} {E : Value → Shared → Prop} {Q : Bool → Shared → Prop} (X : K.In s.heap) (J : PySem.W.InstAt s.heap a ox C od) (t : TruC K C) (h : Q true s) : wpAny M A (truthy (.ref a)) Q E s := by
  unfold truthy
  refine wpAny_bind (m := callSpecial? (.ref a) (Str.ofString "__bool__")) (wpAny_bind (wpAny_bind (J.type.here ((PySem.W.looks_findIn X t.nb).here (wpAny_pure ?_)))))
  refine wpAny_bind (wpAny_bind (J.type.here ((PySem.W.looks_findIn X t.nl).here ?_)))
  exact wpAny_pure h
theorem mt_bool_inst (a C : Addr) (K : PySem.W.Frag) (t : TruC K C) : Meets (Builtin.«bool.__new__» ⟨[.type "bool", .ref a], []⟩) (fun _ R s => K.In s.heap ∧ (∃ ox od, PySem.W.InstAt s.heap a ox C od) ∧ R (.ok (.ret (.bool true))) s) :=
  Meets.of_wp fun prog w A R s ⟨X, ⟨ox, od, J⟩, hs⟩ => by
    have f1 := F.conv_sub_bool
    repeat (any_goals (first | assumption | (with_reducible refine truthy_inst X J t ?_) | wp_step))
    all_goals first | exact ⟨_, rfl, hs⟩ | exact hs | skip
end

section
variable {X : Cx} {G : Ga} {E : XK} {a b : Expr} {es : List Expr} {e : Expr} {fo fa fe : EvE} {ga : EvA} {p pos p2 : Pos}
/-! ### bool(..) -/
def boolF (cs : List Nat) : Fb := fun S ds => match ds with
  | [.int i] => some (.bl (i != 0), S)
  | [.bl b] => some (.bl b, S)
  | [d] => match fldsD S d with
    | some (c, _) => if cs.contains c = true then some (.bl true, S) else none
    | none => none
  | _ => none
def rBoolI (K : PySem.W.Frag) : List V → Hp → VK → Prop := fun xs H Q => ∃ a C dx fs, xs = [.ref a] ∧ H a = some (.ins C dx fs) ∧ TruC K C ∧ Q (.bl true) H
theorem call_boolI : CallR X (.type "bool") (rBoolI X.K) := by
  intro pins s σ H xs us Q I r h
  obtain ⟨a, C, dx, fs, rfl, ha, t, q⟩ := h
  obtain rfl := Vals.ref1 r
  obtain ⟨mA, O, _⟩ := ins_get I.hok ha
  obtain ⟨od, J, _⟩ := O.look
  exact call_bool_1 (mt_bool_inst a C X.K t) ⟨I.kIn, ⟨_, _, J⟩, rfl, ⟨.bl true, H, I, rfl, q⟩⟩
def rBoolA (K : PySem.W.Frag) : List V → Hp → VK → Prop := fun xs H Q => ((∃ i, xs = [.int i] ∧ Q (.bl (i != 0)) H) ∨ ∃ k, xs = [.bl k] ∧ Q (.bl k) H) ∨ rBoolI K xs H Q
theorem call_boolA : CallR X (.type "bool") (rBoolA X.K) := call_bool1.or call_boolI
theorem f_bool {cs : List Nat} (h : ∀ c C, cs.contains c = true → G.cls[c]? = some C → TruC G.K C) : FnS G E (rBoolA G.K) (boolF cs) := by
  intro F S H m ds vs Q s rd q
  unfold boolF at q
  split at q
  · cases rd with
    | cons r1 r2 => cases r2; cases r1; exact .inl (.inl ⟨_, rfl, RunE.here q s (.bl _)⟩)
  · cases rd with
    | cons r1 r2 => cases r2; cases r1; exact .inl (.inr ⟨_, rfl, RunE.here q s (.bl _)⟩)
  · rename_i d _ _
    cases rd with
    | cons r1 r2 =>
      cases r2
      cases e1 : fldsD S d with
      | none => rw [e1] at q; exact q.elim
      | some z =>
        obtain ⟨c, fs⟩ := z
        simp only [e1] at q
        split at q
        · rename_i hc
          obtain ⟨a, C, dx, gs, rfl, hC, ha, _⟩ := flds_ok s r1 e1
          exact .inr ⟨a, C, dx, gs, rfl, ha, h c C hc hC, RunE.here q s (.bl _)⟩
        · exact q.elim
  · exact q.elim

/-! ### a list's slice with a step -/
def eSlS (fa : EvE) (fl fh fs : EvP) : EvE := fun ρ S => (fa ρ S).bind fun p => (fl ρ p.2).bind fun l => (fh ρ l.2).bind fun u => (fs ρ u.2).bind fun t => match seqL t.2 p.1 with
  | some xs => if t.1 ≠ some 0 then
      let z := sliceBounds l.1 u.1 t.1 xs.length
      .ok (.lst (pick (sliceRange z.1 z.2.1 z.2.2) xs), t.2)
    else .bad
  | none => .bad
def tSlS (K : PySem.W.Frag) (te : TE) (tl th ts : TO) : TE := fun σ H Q => te σ H fun x H1 => tl σ H1 fun l H2 => th σ H2 fun u H3 => ts σ H3 fun t H4 => ∃ a xs, x = .ref a ∧ SqL K H4 a xs ∧ t ≠ some 0 ∧
  let z := sliceBounds l u t xs.length
  ∀ p, H4 p = none → Q (.ref p) (upd H4 p (.lst (pick (sliceRange z.1 z.2.1 z.2.2) xs)))
theorem pe_slS {te : TE} {lo hi st : Option Expr} {tl th ts : TO} (he : PE X e te) (hl : PO X lo tl) (hu : PO X hi th) (hst : PO X st ts) (ht : ∀ o i, ∃ ops, subscripted (.Slice lo hi st p2) false o i = operate ops (getItem o i) := by intro o i; first | exact ⟨[i, o], by with_unfolding_all rfl⟩ | exact ⟨[o, i], by with_unfolding_all rfl⟩) : PE X (.Subscript e (.Slice lo hi st p2) pos) (tSlS X.K te tl th ts) := by
  refine ⟨fun pins s σ H Q I h => ?_⟩
  refine Subscript_ (thn (he.run pins s σ H _ I h) fun v s1 ⟨x, H1, I1, r1, q1⟩ => ?_)
  refine wpAny_Slice (thn (hl.run pins s1 σ H1 _ I1 q1) fun vl s2 ⟨l, H2, I2, pl, q2⟩ => thn (hu.run pins s2 σ H2 _ I2 q2) fun vu s3 ⟨u, H3, I3, pu, q3⟩ => thn (hst.run pins s3 σ H3 _ I3 q3) fun vt s4 ⟨t, H4, I4, pt, a, xs, ex, hx, h0, q4⟩ => ?_)
  subst ex
  obtain rfl : v = Value.ref a := r1
  have I5 : Inv X pins σ H4 { s4 with heap := s4.heap.push { cls := .type "slice", data := .fields #[vl, vu, vt] } } := I4.kept (t' := s4.toks) fun b ob q => Heap.get?_push_of_some _ q
  obtain ⟨its, r, hT, hz⟩ := I5.list hx
  have hlen := r.length
  have hg : wpAny (model X.prog X.w) X.A (getItem (.ref a) (.ref s4.heap.objs.size)) (EP X pins σ Q) X.xe { s4 with heap := s4.heap.push { cls := .type "slice", data := .fields #[vl, vu, vt] } } := by
    refine wpAny_getItem_list_slice hT.isList (Heap.IsSliceOf.new ..) pl pu pt h0 ?_ (by rw [List.size_toArray] <;> omega)
    have e1 : slicePick its.toArray l u t = (pick (sliceRange (sliceBounds l u t xs.length).1 (sliceBounds l u t xs.length).2.1 (sliceBounds l u t xs.length).2.2) its).toArray := by
      unfold slicePick pick
      rw [List.size_toArray, ← hlen]
      simp
    rw [e1]
    have hv := pick_vals r (sliceRange (sliceBounds l u t xs.length).1 (sliceBounds l u t xs.length).2.1 (sliceBounds l u t xs.length).2.2)
    refine ⟨.ref _, _, I5.laid (t' := s4.toks) (o := .lst (pick (sliceRange (sliceBounds l u t xs.length).1 (sliceBounds l u t xs.length).2.1 (sliceBounds l u t xs.length).2.2) xs)) (fun b ob q => Heap.get?_push_of_some _ q) (Nat.le_refl _) ?_, rfl, q4 _ (I5.hok.fresh (Nat.le_refl _))⟩
    refine ⟨?_, _, 0, hv, Heap.get?_push_size _ rfl⟩
    have hs := slicePick_size_le its.toArray l u t
    rw [e1, List.size_toArray, List.size_toArray, ← hv.length] at hs
    omega
  show wpAny (model X.prog X.w) X.A (subscriptTail e (.Slice lo hi st p2) (.ref a) (.ref s4.heap.objs.size)) (EP X pins σ Q) X.xe _
  obtain ⟨ops, hops⟩ := ht (.ref a) (.ref s4.heap.objs.size)
  exact tail_any (ops := ops) hT.isList.typeIs slot_list_getitem.lookup hg hops
end
end Pd
end
section
/-! Pd, part R: stepped slices, stars in displays, f-strings, targets that are places. -/
namespace Pd
open PySem PySem.Spec PyProof.Rows L2

section
variable {X : Cx} {G : Ga} {E : XK} {a b : Expr} {es : List Expr} {e : Expr} {fo fa fe : EvE} {ga : EvA} {p pos p2 : Pos} {fl fh fs : EvP}
theorem x_slS {lo hi st : Option Expr} (W : Wf X G) (ha : PE X e (tX G E fa)) (hl : PO X lo (tP G E fl)) (hh : PO X hi (tP G E fh)) (hs : PO X st (tP G E fs)) (ht : ∀ o i, ∃ ops, subscripted (.Slice lo hi st p2) false o i = operate ops (getItem o i) := by intro o i; first | exact ⟨[i, o], by with_unfolding_all rfl⟩ | exact ⟨[o, i], by with_unfolding_all rfl⟩) :
    PE X (.Subscript e (.Slice lo hi st p2) pos) (tX G E (eSlS fa fl fh fs)) :=
  PE.weak (pe_slS ha hl hh hs ht) fun σ H Q ⟨F, ρ, m, S, hE, hS, h⟩ => tX_bind hE hS h fun d S1 v H1 m1 _ k1 e1 s1 r1 h1 => tP_bind e1 s1 h1 fun l S2 H2 m2 _ k2 e2 s2 h2 => tP_bind e2 s2 h2 fun u S3 H3 m3 _ k3 e3 s3 h3 => tP_bind e3 s3 h3 fun t S4 H4 m4 _ k4 e4 s4 h4 => by
    have r4 := ((r1.mono k2).mono k3).mono k4
    cases q : seqL S4 d with
    | none => simp only [q] at h4; exact h4.elim
    | some xs =>
      simp only [q] at h4
      split at h4
      · rename_i h0
        obtain ⟨a, ys, rfl, hx, ry⟩ := seqL_ok s4 r4 q
        refine ⟨a, ys, rfl, by rw [W.K]; exact hx, h0, fun p hp => ?_⟩
        rw [ry.length] at h4
        exact RunE.made h4 s4 hp (VD.newL s4 hp (pick_vds ry _))
      · exact h4.elim
/-- *e in a list of items -/
def aStar (fe : EvE) (ga : EvA) : EvA := fun ρ S => (fe ρ S).bind fun p => match seqA p.2 p.1 with
  | some xs => (ga ρ p.2).bind fun q => .ok (xs ++ q.1, q.2)
  | none => .bad
theorem a_star (W : Wf X G) (he : PE X e (tX G E fe)) (hr : PA X es (tA G E ga)) (hs : starEach (.Starred e p :: es) X.env = (true, eval e X.env) :: starEach es X.env := by rfl) : PA X (.Starred e p :: es) (tA G E (aStar fe ga)) :=
  PA.weak (StX.pa_star he hr hs) fun σ H Q ⟨F, ρ, m, S, hE, hS, h⟩ => tX_bindA hE hS h fun d S1 v H1 m1 _ k1 e1 s1 r1 h1 => by
    cases q : seqA S1 d with
    | none => simp only [q] at h1; exact h1.elim
    | some xs =>
      simp only [q] at h1
      obtain ⟨a, ys, rfl, hx, ry⟩ := seqA_ok s1 r1 q
      rw [← W.K] at hx
      exact ⟨a, ys, rfl, hx.symm, tA_bindA e1 s1 h1 fun ds S2 vs H2 m2 _ k2 e2 s2 r2 h2 => RunA.here h2 s2 ((ry.mono k2).append r2)⟩

/-! ### f-strings -/
def eFmt (fo : EvE) : EvE := fun ρ S => (fo ρ S).bind fun p => match p.1 with
  | .str y => if y.length ≤ sizeLine then .ok (.str y, p.2) else .bad
  | .int i => if i.natAbs.log2 < 1920 then .ok (.str (toString i), p.2) else .bad
  | _ => .bad
theorem x_fmt (he : PE X e (tX G E fo)) : PE X (.FormattedValue e (-1) none pos) (tX G E (eFmt fo)) :=
  PE.weak (pe_fmt he) fun σ H Q ⟨F, ρ, m, S, hE, hS, h⟩ => tX_bind hE hS h fun d S1 v H1 m1 _ k1 e1 s1 r1 h1 => by
    cases r1 with
    | str y =>
      simp only at h1
      split at h1
      · rename_i hl; exact .inl ⟨y, rfl, hl, RunE.here h1 s1 (.str _)⟩
      · exact h1.elim
    | int i =>
      simp only at h1
      split at h1
      · rename_i hl; exact .inr ⟨i, rfl, hl, RunE.here h1 s1 (.str _)⟩
      · exact h1.elim
    | _ => exact h1.elim
def eJs : List EvE → Str → EvE
  | [], acc => fun _ S => .ok (.str acc, S)
  | f :: fs, acc => fun ρ S => (f ρ S).bind fun p => match p.1 with
    | .str y => if (acc ++ y).length ≤ sizeLine then eJs fs (acc ++ y) ρ p.2 else .bad
    | _ => .bad
theorem tJs_of {σ : L2.St} {F : List Addr} {ρ : Slots} {Q : VK} : ∀ (fs : List EvE) (acc : Str) (m : List Addr) (S : Store) (H : Hp), EnvR G H m (lw F m S) ρ σ → SR G F H m S → RunE G E F (eJs fs acc ρ S) H m (lv m S) Q → tJs (fs.map (tX G E)) acc σ H fun out H1 => Q (.str out) H1
  | [], acc, m, S, H, hE, hS, h => RunE.here h hS (.str acc)
  | f :: fs, acc, m, S, H, hE, hS, h => by
    simp only [eJs] at h
    refine tX_bind hE hS h fun d S1 v H1 m1 _ k1 e1 s1 r1 h1 => ?_
    cases r1 with
    | str y =>
      simp only at h1
      split at h1
      · rename_i hl; exact ⟨y, rfl, hl, tJs_of fs (acc ++ y) m1 S1 H1 e1 s1 h1⟩
      · exact h1.elim
    | _ => exact h1.elim
/-- the parts -/
inductive PJs (X : Cx) (G : Ga) (E : XK) : List Expr → List EvE → Prop where
  | nil : PJs X G E [] []
  | cons {e : Expr} {f : EvE} {es : List Expr} {fs : List EvE} (h : PE X e (tX G E f)) (r : PJs X G E es fs) : PJs X G E (e :: es) (f :: fs)
theorem PJs.pj {es : List Expr} {fs : List EvE} (h : PJs X G E es fs) : PJ X es (fs.map (tX G E)) := by
  induction h with
  | nil => exact .nil
  | cons h _ ih => exact .cons h ih
theorem x_joined {v1 v2 : Expr} {rest : List Expr} {fs : List EvE} (h : PJs X G E (v1 :: v2 :: rest) fs) : PE X (.JoinedStr (v1 :: v2 :: rest) pos) (tX G E (eJs fs Str.empty)) :=
  PE.weak (pe_joined h.pj) fun σ H Q ⟨F, ρ, m, S, hE, hS, h⟩ => tJs_of fs Str.empty m S H hE hS h
theorem x_joined1 (h : PE X e (tX G E fo)) : PE X (.JoinedStr [e] pos) (tX G E fo) := pe_joined1 h

/-! ### targets that may be places -/
abbrev Tq := D → Slots → Store → Res (Slots × Store)
abbrev Tqs := List D → Slots → Store → Res (Slots × Store)
def RunQ (G : Ga) (E : XK) (F : List Addr) (r : Res (Slots × Store)) (H : Hp) (m L : List Addr) (Q : L2.St → Hp → Prop) : Prop := match r with
  | .ok (ρ, S') => ∀ σ H' m', Kp H m L H' m' (lv m' S') → SR G F H' m' S' → EnvR G H' m' (lw F m' S') ρ σ → Q σ H'
  | .exc x S' => ∀ cls dd H' m', Kp H m L H' m' (lv m' S') → SR G F H' m' S' → XD G H' m' (lw F m' S') x cls dd → E cls dd H'
  | .bad => False
theorem RunQ.mono {F : List Addr} {r : Res (Slots × Store)} {H H1 : Hp} {m m1 L L1 : List Addr} {Q : L2.St → Hp → Prop} (k : Kp H m L H1 m1 L1) (h : RunQ G E F r H m L Q) : RunQ G E F r H1 m1 L1 Q := by
  cases r with
  | ok q => exact fun σ H' m' k' s e => h σ H' m' (k.trans k') s e
  | exc x S' => exact fun c d H' m' k' s e => h c d H' m' (k.trans k') s e
  | bad => exact h
def TqOk (G : Ga) (E : XK) (t : TG) (g : Tq) : Prop := ∀ (F : List Addr) (ρ : Slots) (σ : L2.St) (H : Hp) (m : List Addr) (S : Store) (d : D) (v : V) (Q : L2.St → Hp → Prop), EnvR G H m (lw F m S) ρ σ → SR G F H m S → VD G H m (lw F m S) d v → RunQ G E F (g d ρ S) H m (lv m S) Q → t v σ H Q
def TqsOk (G : Ga) (E : XK) (t : TGs) (g : Tqs) : Prop := ∀ (F : List Addr) (ρ : Slots) (σ : L2.St) (H : Hp) (m : List Addr) (S : Store) (d : List D) (v : List V) (Q : L2.St → Hp → Prop), EnvR G H m (lw F m S) ρ σ → SR G F H m S → VDs G H m (lw F m S) d v → RunQ G E F (g d ρ S) H m (lv m S) Q → t v σ H Q
def qN (i : Nat) : Tq := fun d ρ S => .ok (ρ.set i (some d), S)
def qNl : Tqs := fun ds ρ S => match ds with
  | [] => .ok (ρ, S)
  | _ => .bad
def qCn (g : Tq) (h : Tqs) : Tqs := fun ds ρ S => match ds with
  | d :: r => (g d ρ S).bind fun q => h r q.1 q.2
  | [] => .bad
def qTu (n : Nat) (h : Tqs) : Tq := fun d ρ S => match d with
  | .tup xs => if xs.length = n then h xs ρ S else .bad
  | _ => .bad
theorem qN_ok (i : Nat) : TqOk G E (gName i) (qN i) := fun F ρ σ H m S d v Q hE hS r h => h _ H m .refl hS (hE.set r)
theorem qNl_ok : TqsOk G E gNil qNl := fun F ρ σ H m S d v Q hE hS r h => by
  cases r with
  | nil => exact ⟨rfl, h σ H m .refl hS hE⟩
  | cons _ _ => exact h.elim
theorem qCn_ok {t : TG} {u : TGs} {g : Tq} {h : Tqs} (hg : TqOk G E t g) (hh : TqsOk G E u h) : TqsOk G E (gCons t u) (qCn g h) := fun F ρ σ H m S d v Q hE hS r q => by
  cases r with
  | nil => exact q.elim
  | cons r1 r2 =>
    rename_i d1 v1 ds vs
    refine ⟨_, _, rfl, hg F ρ σ H m S _ _ _ hE hS r1 ?_⟩
    unfold qCn at q
    simp only at q
    cases e1 : g d1 ρ S with
    | ok z =>
      obtain ⟨ρ1, S1⟩ := z
      rw [e1] at q
      exact fun σ' H' m' k s e => hh F ρ1 σ' H' m' S1 _ _ Q e s (r2.mono k) (RunQ.mono k q)
    | exc x S' => rw [e1] at q; exact q
    | bad => rw [e1] at q; exact q.elim
theorem qTu_ok {n : Nat} {u : TGs} {h : Tqs} (hh : TqsOk G E u h) : TqOk G E (gTup G.K n u) (qTu n h) := fun F ρ σ H m S d v Q hE hS r q => by
  cases r with
  | tup hy r =>
    unfold qTu at q
    simp only at q
    split at q
    · rename_i hn
      exact ⟨_, _, rfl, hy.sq, by rw [← r.length]; exact hn, hh F ρ σ H m S _ _ Q hE hS r q⟩
    · exact q.elim
  | _ => exact q.elim
/-- o[i] as a target -/
def qSub (fo fi : EvE) : Tq := fun d ρ S => (fo ρ S).bind fun o => (fi ρ o.2).bind fun i => match setC i.2 o.1 i.1 d with
  | some S' => .ok (ρ, S')
  | none => .bad
end
section
variable {X : Cx} {G : Ga} {E : XK} {o i e tg : Expr} {fo fi f : EvE} {pos pos' : Pos}
theorem tX_bindQ {f : EvE} {g : D × Store → Res (Slots × Store)} {Q' : VK} {F : List Addr} {H : Hp} {m : List Addr} {S : Store} {ρ : Slots} {σ : L2.St} {Q : L2.St → Hp → Prop} (hE : EnvR G H m (lw F m S) ρ σ) (hS : SR G F H m S) (h : RunQ G E F ((f ρ S).bind g) H m (lv m S) Q)
    (hQ : ∀ d S1 v H1 m1, Kp H m (lv m S) H1 m1 (lv m1 S1) → EnvR G H1 m1 (lw F m1 S1) ρ σ → SR G F H1 m1 S1 → VD G H1 m1 (lw F m1 S1) d v → RunQ G E F (g (d, S1)) H1 m1 (lv m1 S1) Q → Q' v H1) : tX G E f σ H Q' := by
  refine ⟨F, ρ, m, S, hE, hS, ?_⟩
  cases q : f ρ S with
  | ok a =>
    obtain ⟨d, S1⟩ := a
    rw [q] at h
    exact fun v H1 m1 k s r => hQ d S1 v H1 m1 k (hE.mono k) s r (RunQ.mono k h)
  | exc x S' => rw [q] at h; exact h
  | bad => rw [q] at h; exact h.elim
theorem qSub_ok : TqOk G E (gSub (tX G E fo) (tX G E fi) rSetL) (qSub fo fi) := fun F ρ σ H m S d v Q hE hS r q => by
  refine tX_bindQ hE hS q fun d2 S2 v2 H2 m2 k2 e2 s2 r2 h2 => tX_bindQ e2 s2 h2 fun d3 S3 v3 H3 m3 k3 e3 s3 r3 h3 => ?_
  cases q : setC S3 d2 d3 d with
  | none => simp only [q] at h3; exact h3.elim
  | some S' =>
    simp only [q] at h3
    exact setC_ok s3 (r2.mono k3) r3 ((r.mono k2).mono k3) q fun H' kk ss => h3 σ H' m3 kk ss (e3.mono kk)
theorem p_sub (ho : PE X o (tX G E fo)) (hi : PE X i (tX G E fi))
    (ha : ∀ v, assign (.Subscript o i pos') X.env v = (do
      let ov ← holding [v] (eval o X.env)
      let iv ← holding [v, ov] (eval i X.env)
      standAt pos'
      holding [v, ov, iv] (setItem ov iv v)
      release [v, ov, iv] []) := by intro _; rfl) : PG X (.Subscript o i pos') (gSub (tX G E fo) (tX G E fi) rSetL) := pg_sub ho hi set_list ha
/-- targets = e -/
def sAsq (f : EvE) (g : Tq) : EvS := fun ρ S => (f ρ S).out fun p => match g p.1 ρ p.2 with
  | .ok (ρ', S') => .nx ρ' S'
  | .exc x S' => .exc x S'
  | .bad => .bad
theorem s_asq {t : TG} {g : Tq} (he : PE X e (tX G E f)) (hg : PG X tg t) (ok : TqOk G E t g) (hs : swapsWithSole [tg] e pos.line X.env = pure false := by rfl) (hw : swappedStores [tg] e X.env = pure none := by rfl)
    (h1 : (assignEach [tg] X.env).map (·.2) = [assign tg X.env] := by rfl) : PS X (.Assign [tg] e pos) (tS G E (sAsq f g)) :=
  PS.weak (ps_asg he hg hs hw h1) fun Dn σ H ⟨F, ρ, m, S, hE, hS, h⟩ => tX_out hE hS h fun d S1 v H1 m1 k1 e1 s1 r1 h1 => by
    refine ok F ρ σ H1 m1 S1 d v _ e1 s1 r1 ?_
    cases q : g d ρ S1 with
    | ok z =>
      obtain ⟨ρ', S'⟩ := z
      simp only [q] at h1
      exact h1
    | exc x S' => simp only [q] at h1; exact h1
    | bad => simp only [q] at h1; exact h1.elim
end
end Pd
end
section
/-! Pd, part T: the head by facts of one's own; the end of a law. -/
namespace Pd
open PySem PySem.Spec PyProof.Rows L2
open PySem.W (Frag)

/-! ### a law's end -/
theorem law_endG {P : Program} {w : World} {K : Frag} {mg mb : Str → Option Value} {k : Nat} {fa a : Addr} {fd : FuncData} {x : Str} {sp : Sp} {s₁ : Shared} {vs : List Value} {ns : List Int}
    (KX : K.In s₁.heap) (hns : s₁.heap.Ns mainGlobals mg) (hb : s₁.heap.Ns builtinsNs mb) (hbb : ∀ x : Str, x ≠ "__name__" → mb x = bootBuiltins x) (hlim : s₁.heap.NoLimit) (hg : s₁.gens = #[])
    (ha : s₁.heap.get? a = some { cls := .type "list", data := .seq vs.toArray }) (hi : IntsAre vs ns) (hl : ns.length ≤ sizeLine) (hr : Room k callerA)
    (hF : ∀ base : Heap, K.In base → base.Ns mainGlobals mg → FnG none P w K mg base k fa fd [x] sp) (hbind : ∀ (s : Shared) (u : Value), BindsTo s fd ⟨[u], []⟩ [(x, u)])
    (hsp : ∀ H : Hp, L2.Only H → SqL K H a (ns.map V.int) → sp [.ref a] H (fun v _ => v = .bl true) E0) :
    codeAny (model P w) callerA (.call (.ref fa) ⟨[.ref a], []⟩) (fun r s' => r = .ok (.ret (.bool true)) ∧ OldK s₁.heap s'.heap ∧ s'.os = s₁.os ∧ AllBare s'.gens) s₁ := by
  have rv := vals_ints hi
  have lenV := hi.length
  have core : ∀ H : Hp, L2.Only H → SqL K H a (ns.map V.int) → HOk P w H s₁.heap → (∀ b u, H b = some u → b = a) → ((∃ u, H a = some u) → K.lookup a = none) →
      codeAny (model P w) callerA (.call (.ref fa) ⟨[.ref a], []⟩) (fun r s' => r = .ok (.ret (.bool true)) ∧ OldK s₁.heap s'.heap ∧ s'.os = s₁.os ∧ AllBare s'.gens) s₁ := by
    intro H hO hS hok hA hK
    have noA : ∀ {b : Addr} {o : Obj} {es : Array DictEntry} {ep : Nat}, s₁.heap.get? b = some o → o.data = .dict es ep → H b = none := fun {b o es ep} e d => by
      cases q : H b with
      | none => rfl
      | some u =>
        obtain rfl := hA b u q
        rw [ha] at e
        cases e
        exact nomatch (show Data.seq vs.toArray _ = Data.dict es ep from d)
    have keepNs : ∀ {b : Addr} {m : Str → Option Value}, s₁.heap.Ns b m → (hidT s₁.heap H).Ns b m := fun {b m} ⟨o, es, ep, e, d, r⟩ => ⟨o, es, ep, hidT_get e (noA e d), d, r⟩
    have inB : K.In (hidT s₁.heap H) := fun b o e => by
      refine hidT_get (KX b o e) ?_
      cases q : H b with
      | none => rfl
      | some u =>
        obtain rfl := hA b u q
        rw [hK ⟨u, q⟩] at e
        cases e
    have modB : Mod K mg (hidT s₁.heap H) := ⟨inB, keepNs hns, ⟨mb, keepNs hb, hbb⟩, let ⟨mc, h1, h2⟩ := hlim; ⟨mc, keepNs h1, h2⟩⟩
    have e0 : Env0 P w K mg (hidT s₁.heap H) callerA [] s₁ H := ⟨rfl, modB, fun b o e => of_hidT e, Nat.le_of_eq (hidT_size _ _), trivial, fun b hb => (List.not_mem_nil (show b ∈ ([] : List Addr) from hb)).elim, hok, .of_eq hg⟩
    refine codeAny_mono ((hF _ inB (keepNs hns)).run callerA [] s₁ H ⟨[.ref a], []⟩ [.ref a] [.ref a] _ E0 rfl (rm_of hr) e0 (hbind s₁ (.ref a)) (.cons rfl .nil) (hsp H hO hS)) fun r s' h => ?_
    cases r with
    | error e =>
      obtain ⟨_, _, _, _, _, _, _, _, _, _, _, _, z⟩ := h
      exact z.elim
    | ok fl =>
      cases fl with
      | ret u =>
        obtain ⟨v, H', os, bare, un, hok', r', q⟩ := h
        obtain rfl : v = .bl true := q
        obtain rfl : u = Value.bool true := r'
        refine ⟨rfl, OldK.of_keep fun b o e => ?_, os, bare⟩
        cases q : H b with
        | none => exact un.keep b o e q (fun z => List.not_mem_nil (show b ∈ ([] : List Addr) from z)) (by simp)
        | some u =>
          rcases hO b with z | ⟨ob, xs, z⟩
          · rw [q] at z; cases z
          · obtain ⟨e1, _⟩ := hok b _ z
            obtain ⟨e2, _⟩ := hok' b _ (un.frzs b ob _ z)
            rw [e] at e1; cases e1
            exact e2
      | _ => exact False.elim h
  cases hk : K.lookup a with
  | some o =>
    have e := KX a o hk
    rw [ha] at e
    cases e
    exact core (fun _ => none) (fun _ => .inl rfl) (.inr ⟨_, vs.toArray, _, hk, rfl, rfl, rfl, by rw [List.size_toArray, lenV]; exact hl, by simpa using rv⟩) (fun b u z => nomatch (show (none : Option HO) = some u from z)) (fun b u z => nomatch (show (none : Option HO) = some u from z)) fun ⟨u, z⟩ => nomatch (show (none : Option HO) = some u from z)
  | none =>
    let fz : HO := .frz { cls := .type "list", data := .seq vs.toArray } (.lst (ns.map V.int))
    have at_ : ∀ {b : Addr} {u : HO}, (if b = a then some fz else none) = some u → b = a ∧ u = fz := fun {b u} z => by
      by_cases hb : b = a
      · rw [if_pos hb] at z
        exact ⟨hb, (Option.some.inj z).symm⟩
      · rw [if_neg hb] at z
        cases z
    refine core (fun b => if b = a then some fz else none) (fun b => ?_) (.inl (.inr ⟨{ cls := .type "list", data := .seq vs.toArray }, if_pos rfl⟩)) (fun b u z => ?_) (fun b u z => (at_ z).1) fun _ => hk
    · by_cases hb : b = a
      · exact .inr ⟨_, _, if_pos hb⟩
      · exact .inl (if_neg hb)
    · obtain ⟨rfl, rfl⟩ := at_ z
      exact ⟨ha, by rw [List.length_map]; exact hl, vs, _, rv, ha⟩

/-! ### the facts that the head tells -/
/-- where something stands, by the written part -/
abbrev Ad := Frag → Addr
/-- a def: where it stands, its text, its defaults -/
structure DefP where
  ad : Ad
  name : Str
  qual : Str
  params : Arguments
  body : List Stmt
  scope : Scope
  dfl : List He.Dv := []
def DefP.dvs (K : Frag) (d : DefP) : List V := d.dfl.map (He.Dv.v K)
def fnP (K : Frag) (a : Addr) : He.FnW := match K.lookup a with
  | some ⟨_, _, .func fd, _⟩ => some (fd.name, fd.qualname, fd.params, fd.body, fd.scope, fd.globals, fd.closure, fd.builtins)
  | _ => none
def DefP.val (d : DefP) : He.FnW := some (d.name, d.qual, d.params, .stmts d.body, d.scope, mainGlobals, [], builtinsNs)
def DefP.ok (K : Frag) (d : DefP) : Bool := PySem.W.keepIn K (.ref (d.ad K)) && match K.lookup (d.ad K) with
  | some ⟨_, _, .func fd, _⟩ => PySem.W.codeIn K fd.code d.qual && He.dflB K fd.defaults (d.dvs K)
  | _ => false
theorem DefP.funD {K : Frag} {d : DefP} (e : fnP K (d.ad K) = d.val) (c : d.ok K = true) : ∃ fd, FunD K d.name d.qual d.params d.body d.scope (d.dvs K) [] (d.ad K) fd := by
  unfold DefP.ok at c
  obtain ⟨kp, c⟩ := Bool.and_eq_true_iff.mp c
  unfold fnP at e
  cases q : K.lookup (d.ad K) with
  | none => rw [q] at c; cases c
  | some o =>
    obtain ⟨oc, od, dt, osl⟩ := o
    rw [q] at c e
    cases dt with
    | func fd =>
      obtain ⟨m1, m2, m3, m4, m5, m6, m7, m8, m9, m10, m11, m12, m13, m14, m15⟩ := fd
      have e' : (some (m1, m2, m3, m4, m5, m6, m7, m15) : He.FnW) = some (d.name, d.qual, d.params, .stmts d.body, d.scope, mainGlobals, [], builtinsNs) := e
      simp only [Option.some.injEq, Prod.mk.injEq] at e'
      obtain ⟨g1, g2, g3, g4, g5, g6, g7, g8⟩ := e'
      subst g1 g2 g3 g4 g5 g6 g7 g8
      obtain ⟨k1, k2⟩ := Bool.and_eq_true_iff.mp (show (PySem.W.codeIn K m13 d.qual && He.dflB K m8 (d.dvs K)) = true from c)
      exact ⟨_, ⟨oc, od, m8, m9, m10, m11, m12, m13, m14, osl, rfl, q, k1, He.dflB_ok k2, .inl rfl⟩, kp⟩
    | _ => cases c
abbrev AlP : Type := Bool × List He.FnW
def obsP (bs : List (Frag → Bool)) (fn : List DefP) (K : Frag) : AlP := ((bs.all fun f => f K) && fn.all fun d => d.ok K, fn.map fun d => fnP K (d.ad K))
def valP (fn : List DefP) : AlP := (true, fn.map DefP.val)
def SaysP (bs : List (Frag → Bool)) (fn : List DefP) (K : Frag) : Prop := obsP bs fn K = valP fn
def obsPG (n : Nat) (bs : List (Frag → Bool)) (fn : List DefP) (g : Addr → Option Obj) : AlP := obsP bs fn (He.frG g (He.asD g n ++ [cStatics]))
def hookP (n : Nat) (bs : List (Frag → Bool)) (fn : List DefP) : PySem.W.Hook where
  α := AlP
  obs := fun s => obsPG n bs fn s.heap.get?
  val := fun _ => valP fn
  says := fun _ h => ∃ K : Frag, K.In h ∧ SaysP bs fn K
  of := fun _ _ e => ⟨_, He.frG_in, e⟩
  keeps := fun _ _ _ ⟨K, hK, c⟩ k => ⟨K, PySem.W.Frag.In.keeps hK k, c⟩
theorem obsPG_eq {n : Nat} {bs : List (Frag → Bool)} {fn : List DefP} (s : PySem.W.SharedT) : obsPG n bs fn (HandSHeadRun.getT s) = (hookP n bs fn).obs s.abs := by
  have e : HandSHeadRun.getT s = s.abs.heap.get? := funext (HandSHeadRun.getT_eq s)
  rw [e] <;> rfl
section
variable {bs : List (Frag → Bool)} {fn : List DefP} {K : Frag}
theorem SaysP.fact (c : SaysP bs fn K) (i : Nat) {f : Frag → Bool} (h : bs[i]? = some f := by rfl) : f K = true :=
  List.all_eq_true.mp (Bool.and_eq_true_iff.mp (show ((bs.all fun f => f K) && fn.all fun d => d.ok K) = true from congrArg Prod.fst c)).1 f (List.mem_of_getElem? h)
theorem SaysP.def_ (c : SaysP bs fn K) (i : Nat) {d : DefP} (h : fn[i]? = some d := by rfl) : ∃ fd, FunD K d.name d.qual d.params d.body d.scope (d.dvs K) [] (d.ad K) fd := by
  have c2 := (Bool.and_eq_true_iff.mp (show ((bs.all fun f => f K) && fn.all fun d => d.ok K) = true from congrArg Prod.fst c)).2
  have e : (fn.map fun d => fnP K (d.ad K)) = fn.map DefP.val := congrArg Prod.snd c
  have e2 : (fn.map fun d => fnP K (d.ad K))[i]? = (fn.map DefP.val)[i]? := by rw [e]
  rw [List.getElem?_map, List.getElem?_map, h] at e2
  exact DefP.funD (Option.some.inj e2) (List.all_eq_true.mp c2 d (List.mem_of_getElem? h))
end
/-- the walk that the head leaves -/
theorem walk_G {l : PySem.W.OpenLaw} {n k : Nat} {q : Program} {loose : List Str} {XP : (Str → Option Value) → Heap → Prop} {YP : World → Heap → Prop} {d : DefRec} {x : Str}
    (hn : l.most = some n) (hn2 : n ≤ sizeLine) (hdf : d.params.defaults = []) (hr : Room k callerA)
    (hF : ∀ (w : World) (mg : Str → Option Value) (fa : Addr) (h : Heap), YP w h → h.Ns mainGlobals mg → mg d.name = some (.ref fa) →
      ∃ (K : Frag) (fd : FuncData) (sp : Sp), K.In h ∧ (∀ (s : Shared) (u : Value), BindsTo s fd ⟨[u], []⟩ [(x, u)]) ∧
        (∀ (H : Hp) (a : Addr) (ns : List Int), ns.length ≤ n → L2.Only H → SqL K H a (ns.map V.int) → sp [.ref a] H (fun v _ => v = .bl true) E0) ∧
        ∀ base : Heap, K.In base → base.Ns mainGlobals mg → FnG none l.prog w K mg base k fa fd [x] sp) :
    PySem.W.WalkO q loose XP YP l.row.toRowW d [] (fun f vs => PySem.call f vs) := by
  refine Att.attach_call hn hdf fun w s₀ s₁ mg mb fa o pm cd doc a vs ns G Y ho hd hcd hmg hobj hints hlen hg => ?_
  obtain ⟨K, fd, sp, KX, hb, hsp, hF⟩ := hF w mg fa _ Y G.T.g hmg
  exact law_endG KX G.T.g G.T.b G.T.builtins G.T.nolimit hg hobj hints (Nat.le_trans hlen hn2) hr hF hb fun H hO hS => hsp H a ns hlen hO hS
end Pd
end
section
/-! Pd, part U: what a printed derivation asks: defs by their text, constants of the module, small rules. -/
namespace Pd
open PySem PySem.Spec PyProof.Rows L2

section
variable {P : Program} {w : World} {K : PySem.W.Frag} {mg : Str → Option Value} {base : Heap} {G : Ga}
/-- the context of a def's body; pn: the error that is handled around it -/
abbrev cxB (calm : Bool) (pn : List (Addr × Obj)) (P : Program) (w : World) (K : PySem.W.Frag) (mg : Str → Option Value) (base : Heap) (N : List Str) (qual : Str) (st : Stmt) (f : Addr) (cdv : Value) (A : Around) (outer : List Env) (s : Shared) (H : Hp) (E : XK) : Cx :=
  { cxOf (L2N.CX P w) P w K mg base N qual (defScope st) f cdv A outer s H E with calm := calm, pn := pn }
end

/-! ### constants of the module -/
def GC (mg : Str → Option Value) (G : Ga) (x : Str) (d : D) : Prop := ∃ v u, mg x = some u ∧ RelV v u ∧ ∀ (H : Hp) (m L : List Addr), VD G H m L d v
theorem gc_int {mg : Str → Option Value} {G : Ga} {x : Str} {i : Int} (h : ∃ t, mg x = some (.int i t)) : GC mg G x (.int i) := let ⟨t, e⟩ := h; ⟨.int i, _, e, ⟨t, rfl⟩, fun _ _ _ => .int i⟩
theorem gc_str {mg : Str → Option Value} {G : Ga} {x z : Str} (h : ∃ t, mg x = some (.str z t)) : GC mg G x (.str z) := let ⟨t, e⟩ := h; ⟨.str z, _, e, ⟨t, rfl⟩, fun _ _ _ => .str z⟩
/-- flat data as the text has it -/
def dvD : He.Dv → Option D
  | .non => some .non
  | .bl b => some (.bl b)
  | .int i => some (.int i)
  | .str x => some (.str x)
  | _ => none
theorem dv_vd {G : Ga} {K : PySem.W.Frag} {H : Hp} {m L : List Addr} : ∀ {vs : List He.Dv} {ds : List D}, vs.map dvD = ds.map some → VDs G H m L ds (vs.map (He.Dv.v K))
  | [], [], _ => .nil
  | [], _ :: _, e => by simp at e
  | _ :: _, [], e => by simp at e
  | v :: vs, d :: ds, e => by
    rw [List.map_cons, List.map_cons] at e
    injection e with e1 e2
    refine .cons ?_ (dv_vd e2)
    cases v <;> first | (cases e1; constructor) | cases e1
def plB (x : Str) (K : PySem.W.Frag) : Bool := match K.lookup (He.ga K x) with
  | some o => o.dict.isNone
  | none => false
theorem plB_ok {K : PySem.W.Frag} {x : Str} (h : plB x K = true) : PlK K (He.ga K x) := by
  unfold plB at h
  cases q : K.lookup (He.ga K x) with
  | none => rw [q] at h; cases h
  | some o =>
    rw [q] at h
    exact ⟨o, q, Option.isNone_iff_eq_none.mp h⟩
theorem gc_tup {K : PySem.W.Frag} {mg : Str → Option Value} {G : Ga} {x : Str} {vs : List He.Dv} {ds : List D} (hK : K = G.K) (hg : mg x = some (.ref (He.ga K x))) (ht : He.tupB K x vs = true) (hpl : plB x K = true) (hd : vs.map dvD = ds.map some := by rfl) : GC mg G x (.tup ds) := by
  refine ⟨.ref (He.ga K x), _, hg, rfl, fun H m L => .tup (.inr ?_) (dv_vd (K := K) hd)⟩
  rw [← hK]
  exact ⟨He.tupB_ok ht _, plB_ok hpl⟩
section
variable {X : Cx} {G : Ga} {E : XK} {x : Str} {pos : Pos} {d : D} {a b c : Expr} {ga : EvA} {e : Expr} {f : EvE} {t : EvT}
theorem x_conG (h : GC X.mg G x d) (hg : Gl X x := by rfl) (hd : (x == ("__debug__" : Str)) = false := by decide) : PE X (.Name x pos) (tX G E (eC d)) :=
  let ⟨_, _, e, r, z⟩ := h
  x_con e r z hg hd
/-- the defaults of a def, by data -/
theorem consts_of {K : PySem.W.Frag} {vs : List He.Dv} {ds : List D} (hd : vs.map dvD = ds.map some := by rfl) : Consts G ds (vs.map (He.Dv.v K)) := fun _ _ _ => dv_vd hd

/-! ### {}, three names at once -/
def eDct0 : EvE := fun _ S => .ok (.dct [], S)
theorem x_dct0 : PE X (.Dict [] [] pos) (tX G E eDct0) := PE.weak pe_dnewK fun σ H Q ⟨F, ρ, m, S, hE, hS, h⟩ p hp => RunE.made h hS hp (.dct upd_same (fun z => hS.freshF hp z) .nil)
def sPar3 (i j l : Nat) (f : EvA) : EvS := fun ρ S => (f ρ S).out fun p => match p.1 with
  | [d1, d2, d3] => .nx (((ρ.set i (some d1)).set j (some d2)).set l (some d3)) p.2
  | _ => .bad
theorem s_par3 (W : Wf X G) (hc : X.calm = true) {i j l : Nat} {x y z : Str} {px py pz pt : Pos} {kt k2 pt2} (hN : X.N.Nodup) (ha : PA X [a, b, c] (tA G E ga))
    (hi : X.N[i]? = some x := by rfl) (hj : X.N[j]? = some y := by rfl) (hl : X.N[l]? = some z := by rfl) (hij : i ≠ j := by decide) (hil : i ≠ l := by decide) (hjl : j ≠ l := by decide)
    (hx : X.env.scope.names.lookup x = some .local := by rfl) (hy : X.env.scope.names.lookup y = some .local := by rfl) (hz : X.env.scope.names.lookup z = some .local := by rfl)
    (hw : swappedStores [.Tuple [.Name x px, .Name y py, .Name z pz] kt pt] (.Tuple [a, b, c] k2 pt2) X.env = pure (some [x, y, z]) := by rfl)
    (hs : swapsWithSole [.Tuple [.Name x px, .Name y py, .Name z pz] kt pt] (.Tuple [a, b, c] k2 pt2) pos.line X.env = pure false := by rfl) :
    PS X (.Assign [.Tuple [.Name x px, .Name y py, .Name z pz] kt pt] (.Tuple [a, b, c] k2 pt2) pos) (tS G E (sPar3 i j l ga)) :=
  PS.weak (ps_par3 hc hN hi hj hl hij hil hjl hx hy hz ha hw hs) fun Dn σ H ⟨F, ρ, m, S, hE, hS, h⟩ => tA_out hE hS h fun ds S1 vs H1 m1 k1 e1 s1 r1 h1 => by
    match ds, vs, r1, h1 with
    | [d1, d2, d3], [v1, v2, v3], .cons r1 (.cons r2 (.cons r3 .nil)), h1 => exact ⟨_, _, _, rfl, RunS.nxt h1 s1 (((e1.set r1).set r2).set r3)⟩
    | [], _, _, h1 => exact h1.elim
    | [_], _, _, h1 => exact h1.elim
    | [_, _], _, _, h1 => exact h1.elim
    | _ :: _ :: _ :: _ :: _, _, _, h1 => exact h1.elim
/-- a comparison by a def, as a test -/
theorem t_cmpR {fa fb : EvE} {g : Go} {op : CmpOp} (ha : PE X a (tX G E fa)) (hb : PE X b (tX G E fb)) (ho : OpR X (compareOp op) (rD G E g)) (hm : behindInMarks op b = false := by first | exact nobehind _ (by decide) (by decide) | rfl) : PT X (.Compare a [op] [b] pos) (tT G E (eB (eBinR g fa fb))) :=
  PT.weak (pt_cmpR ho ha hb hm) fun σ H Q h => by
    obtain ⟨F, ρ, m, S, hE, hS, h⟩ := tX_of_tT h
    exact tX_bind hE hS h fun d S1 v H1 m1 _ k1 e1 s1 r1 h1 => tX_bind e1 s1 h1 fun d2 S2 v2 H2 m2 _ k2 e2 s2 r2 h2 => ⟨F, S2, m2, d, d2, s2, r1.mono k2, r2, h2⟩
end
end Pd
end
section
/-! Pd, part V: a def that returns a new list which its caller changes. -/
namespace Pd
open PySem PySem.Spec PyProof.Rows L2

/-- what is returned is a new cell: it stays one -/
def leaveC (S0 : Store) (d : D) (S1 : Store) : Res (D × Store) := match d with
  | .ref n => match S1[n]? with
    | some (.lst xs) => if (decide (S0.length ≤ n) && oldOk S0.length S0 S1 && nrs S0.length xs) = true then .ok (.ref S0.length, S1.take S0.length ++ [.lst xs]) else .bad
    | _ => .bad
  | _ => .bad
def fnDC (n : Nat) (body : EvS) : FD := fun ds S => match body (startD n ds) S with
  | .rt d S1 => leaveC S d S1
  | .exc x S1 => leaveX S x S1
  | _ => .bad
section
variable {G : Ga} {F : List Addr} {H : Hp} {m : List Addr} {S : Store}
theorem leaveC_exc {S0 : Store} {d : D} {S1 S2 : Store} {x : Exc} (h : leaveC S0 d S1 = .exc x S2) : False := by
  unfold leaveC at h
  split at h
  · split at h
    · split at h <;> cases h
    · cases h
  · cases h
theorem leaveC_ok {H0 : Hp} {m0 : List Addr} {S0 S2 : Store} {d d' : D} {v : V} (s0 : SR G F H0 m0 S0) (kk : Kp H0 m0 (lv m0 S0) H m (lv m S)) (s : SR G F H m S) (r : VD G H m (lw F m S) d v) (h : leaveC S0 d S = .ok (d', S2)) :
    ∃ m2, Kp H0 m0 (lv m0 S0) H m2 (lv m2 S2) ∧ SR G F H m2 S2 ∧ VD G H m2 (lw F m2 S2) d' v := by
  unfold leaveC at h
  split at h
  · rename_i n
    split at h
    · rename_i xs ec
      split at h
      · rename_i hc
        simp only [Bool.and_eq_true, decide_eq_true_eq] at hc
        obtain ⟨⟨hkn, hold⟩, hnr⟩ := hc
        cases h
        cases r with
        | ref ha =>
          rename_i a
          have hlen0 := s0.len
          have hlen := s.len
          have hk : S0.length ≤ m.length := by
            have := (List.getElem?_eq_some_iff.mp ha).1
            omega
          have tl : (m.take S0.length).length = S0.length := by rw [List.length_take]; omega
          have tl2 : (S.take S0.length).length = S0.length := by rw [List.length_take, hlen]; omega
          have aL : a ∈ lv m S := mem_lv.mpr ⟨n, _, ha, ec, rfl⟩
          have naT : a ∉ m.take S0.length := fun z => by
            obtain ⟨j, hj⟩ := List.getElem?_of_mem z
            have hjk : j < S0.length := by
              have := (List.getElem?_eq_some_iff.mp hj).1
              omega
            rw [List.getElem?_take_of_lt hjk] at hj
            obtain ⟨l1, e1⟩ := List.getElem?_eq_some_iff.mp ha
            obtain ⟨l2, e2⟩ := List.getElem?_eq_some_iff.mp hj
            have := (List.getElem_inj s.nd).mp (e1.trans e2.symm)
            omega
          have inLv : ∀ b, b ∈ lv (m.take S0.length ++ [a]) (S.take S0.length ++ [.lst xs]) → b ∈ lv m S := fun b z => by
            rcases lv_push (by rw [tl, tl2]) b z with z | z
            · exact (take_lv z).1
            · rw [z]; exact aL
          have hL : ∀ b, b ∈ lw F (m.take S0.length ++ [a]) (S.take S0.length ++ [.lst xs]) → b ∈ lw F m S := fun b z => by
            rcases List.mem_append.mp z with z | z
            · exact List.mem_append_left _ z
            · exact List.mem_append_right _ (inLv b z)
          have up : ∀ {L : List Addr}, Kp H (m.take S0.length) L H (m.take S0.length ++ [a]) L := ⟨fun _ _ h _ => h, fun _ h => .inl h, fun i b e => by rw [List.getElem?_append_left (List.getElem?_eq_some_iff.mp e).1]; exact e⟩
          have at_k : (m.take S0.length ++ [a])[S0.length]? = some a := by
            rw [List.getElem?_append_right (by omega), tl]
            simp
          refine ⟨m.take S0.length ++ [a], ⟨kk.same, fun b z => kk.news b (inLv b z), fun i b e => ?_⟩, ?_, .ref at_k⟩
          · have hi : i < S0.length := by rw [hlen0]; exact (List.getElem?_eq_some_iff.mp e).1
            rw [List.getElem?_append_left (by omega), List.getElem?_take_of_lt hi]
            exact kk.ext i b e
          · refine ⟨by rw [List.length_append, List.length_append, tl, tl2]; rfl, ?_, fun b hb => ?_, fun b hb => ⟨(s.ftr b hb).1, fun z => ?_⟩, fun i c b h1 h2 => ?_⟩
            · rw [List.nodup_append]
              refine ⟨s.nd.sublist (List.take_sublist _ _), by simp, fun x hx y hy => ?_⟩
              have e : y = a := by simpa using hy
              subst e
              exact fun z => naT (z ▸ hx)
            · rcases List.mem_append.mp hb with hb | hb
              · exact s.trk b (List.mem_of_mem_take hb)
              · have e : b = a := by simpa using hb
                rw [e]
                exact s.trk a (List.mem_of_getElem? ha)
            · rcases List.mem_append.mp z with z | z
              · exact (s.ftr b hb).2 (List.mem_of_mem_take z)
              · have e : b = a := by simpa using z
                rw [e] at hb
                exact (s.ftr a hb).2 (List.mem_of_getElem? ha)
            · by_cases hi : i < S0.length
              · rw [List.getElem?_append_left (by omega), List.getElem?_take_of_lt hi] at h1
                rw [List.getElem?_append_left (by omega), List.getElem?_take_of_lt hi] at h2
                have ok := s.cell i c b h1 h2
                have hcn : nrC S0.length c = true := by
                  rcases oldOk_get hold hi h1 with q | q
                  · have hn0 : i < m0.length := by rw [← hlen0]; exact hi
                    have := (s0.cell i c _ q (List.getElem?_eq_getElem hn0)).nr
                    rw [hlen0]
                    exact this
                  · exact q
                cases c with
                | dead => trivial
                | lst ys =>
                  obtain ⟨zs, g1, g2⟩ := ok
                  exact ⟨zs, g1, VDs.mono0 up (VDs.chop hL hcn g2)⟩
                | ins c fs =>
                  obtain ⟨C, dx, gs, g0, g1, g2⟩ := ok
                  exact ⟨C, dx, gs, g0, g1, FDs.mono0 up (FDs.chop hL hcn g2)⟩
                | dct ks =>
                  obtain ⟨gs, g1, g2⟩ := ok
                  exact ⟨gs, g1, KDs.mono0 up (KDs.chop hL hcn g2)⟩
                | tbl j =>
                  obtain ⟨q, ps, g0, g1, g2, g3⟩ := ok
                  exact ⟨q, ps, g0, g1, g2, fun pos cv e => let ⟨c, e1, e2, n⟩ := g3 pos cv e; ⟨c, e1, e2, fun z => n (hL _ z)⟩⟩
              · have hi2 : i = S0.length := by
                  have := (List.getElem?_eq_some_iff.mp h1).1
                  rw [List.length_append, tl2] at this
                  simp at this
                  omega
                subst hi2
                rw [at_k] at h2
                cases h2
                rw [List.getElem?_append_right (by omega), tl2] at h1
                simp at h1
                subst h1
                obtain ⟨zs, g1, g2⟩ := s.list ec ha
                exact ⟨zs, g1, VDs.mono0 up (VDs.chop hL hnr g2)⟩
      · cases h
    · cases h
  · cases h
theorem body_ofC {E : XK} {N : List Str} {n : Nat} {body : EvS} {vs : List V} {Q : VK} (h : spD G n (fnDC N.length body) vs H Q E) : tS G E body { nx := fun _ H' => Q .non H', rt := Q } (L2.start N vs) H := by
  obtain ⟨_, F, ds, m, S, r, s, h⟩ := h
  refine ⟨F, startD N.length ds, m, S, start_env r N, s, ?_⟩
  unfold fnDC at h
  cases q : body (startD N.length ds) S with
  | rt d S1 =>
    simp only [q] at h
    intro v H' m' k s' rv
    cases q2 : leaveC S d S1 with
    | ok p =>
      obtain ⟨d', S2⟩ := p
      rw [q2] at h
      obtain ⟨m2, k2, s2, r2⟩ := leaveC_ok s k s' rv q2
      exact h _ _ m2 k2 s2 r2
    | exc x S2 => exact (leaveC_exc q2).elim
    | bad => rw [q2] at h; exact h.elim
  | exc x S1 =>
    simp only [q] at h
    exact fun cls dd H' m' k s' r' => leaveX_ok s k s' r' h
  | nx ρ1 S1 => simp only [q] at h; exact h.elim
  | bk ρ1 S1 => simp only [q] at h; exact h.elim
  | ct ρ1 S1 => simp only [q] at h; exact h.elim
  | bad => simp only [q] at h; exact h.elim
end

section
variable {P : Program} {w : World} {K : PySem.W.Frag} {mg : Str → Option Value} {base : Heap} {G : Ga}
theorem fnG_ofF {μ : Mu} {x qual : Str} {st : Stmt} {dvs : List V} {f : Addr} {fd : FuncData} {N ps : List Str} {k : Nat} {body : EvS} {fF : FD} (hF : FunD K x qual (defArgs st) (defBody st) (defScope st) dvs [] f fd) (sc : FnScope N ps (defScope st)) (hK : K = G.K) (hnd : G.nm.Nodup)
    (hbf : ∀ (E : XK) (vs : List V) (H : Hp) (Q : VK), spD G ps.length fF vs H Q E → tS G E body { nx := fun _ H' => Q .non H', rt := Q } (L2.start N vs) H)
    (hbody : ∀ (calm : Bool) (pn : List (Addr × Obj)) (cdv : Value) (A : Around) (outer : List Env) (s : Shared) (H : Hp) (E : XK), fd.code = cdv → Wf (cxB calm pn P w K mg base N qual st f cdv A outer s H E) G → Rm μ k (cxB calm pn P w K mg base N qual st f cdv A outer s H E) →
      Bd μ (cxB calm pn P w K mg base N qual st f cdv A outer s H E) E → PSs (cxB calm pn P w K mg base N qual st f cdv A outer s H E) (defBody st) (tS G E body)) :
    FnG μ P w K mg base (k + 1) f fd ps (spD G ps.length fF) := by
  obtain ⟨oc, od, dV, kV, doc, pm, an, cdv, ct, osl, rfl, lk, hcd, _, _⟩ := hF.ex
  refine ⟨fun vs H Q E h => h.1, fun A outer s H args us vs Q E hg hr e0 hb r hsp => ?_⟩
  have keepB : ∀ b o, base.get? b = some o → s.heap.get? b = some o := fun b o e => (e0.bs b o e).1
  have inS : K.In s.heap := e0.mod.kin.keeps keepB
  have noLim : s.heap.NoLimit := e0.mod.nolimit.keeps keepB
  refine codeAny_call_function hr.depth (inS _ _ lk) rfl sc.co sc.gen rfl (PySem.W.codeRec_of inS hcd) (hb _ _ _ _ ?_)
  refine wpAny_newFunctionEnv_cells sc.kind (fun ⟨n, v⟩ hy => ?_) fun env he s1 hx => ?_
  · rcases sc.par n (List.of_mem_zip hy).1 with q | q
    · exact .inl q
    · exact .inr ⟨q, PySem.W.cellsFrom_some _ _ _ (.inl q)⟩
  · subst he
    refine ⟨noLim.keeps hx.toInCall.keep, codeAny_func ?_⟩
    have rm' := hr.rm.deeper (envOfC qual (defScope st) s.heap.objs.size f cdv)
    obtain ⟨calm, pn, iv, hcalm, hr'⟩ : ∃ (calm : Bool) (pn : List (Addr × Obj)), Inv (cxB calm pn P w K mg base N qual st f cdv A outer s H E) [] (L2.start N vs) H s1 ∧ (μ = none → calm = true) ∧ Rm μ k (cxB calm pn P w K mg base N qual st f cdv A outer s H E) := by
      cases μ with
      | none => exact ⟨true, [], inv_start sc (hr.calm rfl) e0 hsp.1 r hx, fun _ => rfl, rm', fun _ => hr.calm rfl, fun p z => by cases z⟩
      | some p =>
        obtain ⟨hot, hpin⟩ := hr.hot p rfl
        exact ⟨false, [p], L2H.inv_startH sc hpin e0 hsp.1 r hx, (fun z => by cases z), rm', (fun z => by cases z), fun p' e => by
          cases e
          exact ⟨hot, List.mem_singleton.mpr rfl⟩⟩
    have wf : Wf (cxB calm pn P w K mg base N qual st f cdv A outer s H E) G := ⟨hK, hnd, by have := rm'.un; show (A.deeper _).units + 70 < cLine; omega, hg⟩
    have bd : Bd μ (cxB calm pn P w K mg base N qual st f cdv A outer s H E) E := ⟨L2N.passes_call (L2N.takes_of rfl rfl rfl rfl) fun _ _ _ _ h => h, passes_of rfl, hcalm, L2N.takes_of rfl rfl rfl rfl⟩
    refine wpAny_mono ((hbody calm pn cdv A outer s H E rfl wf hr' bd).run [] s1 (L2.start N vs) H _ iv (hbf _ _ _ _ hsp)) (fun fl s' hs => ?_) fun _ _ h => h
    cases fl with
    | ret u =>
      obtain ⟨v, σ', H', J, rv, q⟩ := hs
      exact ⟨v, H', J.os, J.bare, J.base, J.hok, rv, q⟩
    | next =>
      obtain ⟨σ', H', J, q⟩ := hs
      exact ⟨V.non, H', J.os, J.bare, J.base, J.hok, rfl, q⟩
    | brk =>
      obtain ⟨_, _, _, q⟩ := hs
      exact q.elim
    | cont =>
      obtain ⟨_, _, _, q⟩ := hs
      exact q.elim
end

/-! ### facts of the written part, as tests -/
section
open PySem.W (Frag)
variable {K : Frag}
/-- a property's getter; a class method's def -/
def pgA (K : Frag) (p : Addr) : Addr := match PySem.W.recIn K p "property" with
  | some (.ref g :: _) => g
  | _ => 0
def cmA (K : Frag) (p : Addr) : Addr := match PySem.W.recIn K p "classmethod" with
  | some (.ref g :: _) => g
  | _ => 0
def bProp (C : Frag → Addr) (f : Str) (K : Frag) : Bool := He.eqO (PySem.W.findIn K (.ref (C K)) f) (some (some (.ref (He.ma K (C K) f)))) && (He.eqO (PySem.W.specialIn K (.ref (He.ma K (C K) f)) "__get__") (some (some (.builtin "property.__get__"))) &&
  (decide (PySem.W.takesIn K (.ref (He.ma K (C K) f)) = some true) && match PySem.W.recIn K (He.ma K (C K) f) "property" with
    | some (.ref _ :: _) => true
    | _ => false))
theorem prop_ok {C : Frag → Addr} {f : Str} (h : bProp C f K = true) : PropOf K (C K) f (He.ma K (C K) f) (pgA K (He.ma K (C K) f)) := by
  unfold bProp at h
  simp only [Bool.and_eq_true, decide_eq_true_eq] at h
  obtain ⟨h1, h2, h3, h4⟩ := h
  refine ⟨He.eqO_ok h1, He.eqO_ok h2, h3, ?_⟩
  unfold pgA
  cases q : PySem.W.recIn K (He.ma K (C K) f) "property" with
  | none => rw [q] at h4; cases h4
  | some l =>
    rw [q] at h4
    cases l with
    | nil => cases h4
    | cons a r =>
      cases a <;> first | cases h4; done | exact ⟨r, rfl⟩
def bRead (C : Frag → Addr) (K : Frag) : Bool := PySem.W.readsIn K (C K) (.type "type") && He.eqO (PySem.W.specialIn K (.ref (C K)) "__getattribute__") (some (some (.builtin "type.__getattribute__")))
theorem read_ok {C : Frag → Addr} (h : bRead C K = true) : ClX.CRead K (C K) (.type "type") := let h := Bool.and_eq_true_iff.mp h; ⟨h.1, He.eqO_ok h.2⟩
def bCm (C : Frag → Addr) (m : Str) (K : Frag) : Bool := (match PySem.W.findCls K (.ref (C K)) (.type "type") m with
    | some (.get (.builtin i) (.ref p) .none (.ref c)) => decide (i = "classmethod.__get__") && (decide (p = He.ma K (C K) m) && decide (c = C K))
    | _ => false) && ((match PySem.W.recIn K (He.ma K (C K) m) "classmethod" with
    | some (.ref _ :: _) => true
    | _ => false) && PySem.W.fnIn K (cmA K (He.ma K (C K) m)))
theorem cm_ok {C : Frag → Addr} {m : Str} (h : bCm C m K = true) : ClX.CMet K (C K) (.type "type") m (He.ma K (C K) m) (cmA K (He.ma K (C K) m)) := by
  unfold bCm at h
  simp only [Bool.and_eq_true] at h
  obtain ⟨h1, h2, h3⟩ := h
  refine ⟨?_, ?_, h3⟩
  · split at h1
    · rename_i i p c e
      simp only [Bool.and_eq_true, decide_eq_true_eq] at h1
      obtain ⟨rfl, rfl, rfl⟩ := h1
      exact e
    · cases h1
  · unfold cmA
    cases q : PySem.W.recIn K (He.ma K (C K) m) "classmethod" with
    | none => rw [q] at h2; cases h2
    | some l =>
      rw [q] at h2
      cases l with
      | nil => cases h2
      | cons a r => cases a <;> first | cases h2; done | exact ⟨r, rfl⟩
def bClsI (C : Frag → Addr) (K : Frag) : Bool := He.eqO (PySem.W.findIn K (.ref (C K)) "__class__") (some (some (.builtin "object.__class__"))) && (He.eqO (PySem.W.specialIn K (.builtin "object.__class__") "__get__") (some (some (.builtin "getset_descriptor.__get__"))) &&
  (decide (PySem.W.takesIn K (.builtin "object.__class__") = some true) && decide (PySem.W.mroIn K (C K) (.type "object") = some true)))
theorem clsI_ok {C : Frag → Addr} (h : bClsI C K = true) : ClsI K (C K) := by
  unfold bClsI at h
  simp only [Bool.and_eq_true, decide_eq_true_eq] at h
  exact ⟨He.eqO_ok h.1, He.eqO_ok h.2.1, h.2.2.1, h.2.2.2⟩
def bTru (C : Frag → Addr) (K : Frag) : Bool := He.eqO (PySem.W.findIn K (.ref (C K)) "__bool__") (some none) && He.eqO (PySem.W.findIn K (.ref (C K)) "__len__") (some none)
theorem tru_ok {C : Frag → Addr} (h : bTru C K = true) : TruC K (C K) := let h := Bool.and_eq_true_iff.mp h; ⟨He.eqO_ok h.1, He.eqO_ok h.2⟩
/-- a special method: a def of the class -/
def bSpec (C : Frag → Addr) (m : Str) (K : Frag) : Bool := He.eqO (PySem.W.findIn K (.ref (C K)) m) (some (some (.ref (He.ma K (C K) m)))) && PySem.W.isFn K (.ref (He.ma K (C K) m))
theorem spec_ok {C : Frag → Addr} {m : Str} (h : bSpec C m K = true) : PySem.W.findIn K (.ref (C K)) m = some (some (.ref (He.ma K (C K) m))) ∧ PySem.W.isFn K (.ref (He.ma K (C K) m)) = true := let h := Bool.and_eq_true_iff.mp h; ⟨He.eqO_ok h.1, h.2⟩
def kds (n : Nat) : List Kd := [.non, .bl, .int, .str, .tup, .lst, .dct] ++ (List.range n).map .ins
theorem kds_all {G : Ga} {kd : Kd} {t : Value} (h : kdT G kd = some t) : kd ∈ kds G.cls.length := by
  unfold kds
  cases kd with
  | ins c =>
    refine List.mem_append_right _ (List.mem_map.mpr ⟨c, List.mem_range.mpr ?_, rfl⟩)
    obtain ⟨C, h1, _⟩ := Option.map_eq_some_iff.mp (show (G.cls[c]?).map Value.ref = some t from h)
    exact (List.getElem?_eq_some_iff.mp h1).1
  | _ => exact List.mem_append_left _ (by decide)
/-- the table of isinstance of u -/
def bIsi (gg : Frag → Ga) (u : Frag → Value) (tab : Kd → Option Bool) (K : Frag) : Bool := (kds (gg K).cls.length).all fun kd => match kdT (gg K) kd, tab kd with
  | some t, some b => decide (PySem.W.kitOne K t (u K) = some b)
  | _, _ => true
theorem isi_ok {gg : Frag → Ga} {u : Frag → Value} {tab : Kd → Option Bool} (h : bIsi gg u tab K = true) : IsT K (gg K) (u K) tab := fun kd t b h1 h2 => by
  have := List.all_eq_true.mp h kd (kds_all h1)
  rw [h1, h2] at this
  exact of_decide_eq_true this
/-- what == asks of a class, its own == beside -/
def bEq (gg : Frag → Ga) (C : Frag → Addr) (K : Frag) : Bool := ((kds (gg K).cls.length).all fun kd => match kdT (gg K) kd with
  | some t => PySem.W.notFirst K (C K) t
  | none => true) && (blts.all (fun T => decide (PySem.W.subIn K (.ref (C K)) (.type T) = some false)) && (He.eqO (PySem.W.findIn K (.ref (C K)) "__ne__") (some (some (.builtin "object.__ne__"))) && decide (PySem.W.subIn K (.ref (C K)) (.type "object") = some true)))
theorem eq_ok {gg : Frag → Ga} {C : Frag → Addr} (h : bEq gg C K = true) : (∀ kd t, kdT (gg K) kd = some t → PySem.W.notFirst K (C K) t = true) ∧ (∀ T : String, blts.contains T = true → PySem.W.subIn K (.ref (C K)) (.type T) = some false) ∧
    PySem.W.findIn K (.ref (C K)) "__ne__" = some (some (.builtin "object.__ne__")) ∧ PySem.W.subIn K (.ref (C K)) (.type "object") = some true := by
  unfold bEq at h
  simp only [Bool.and_eq_true, decide_eq_true_eq] at h
  obtain ⟨h1, h2, h3, h4⟩ := h
  refine ⟨fun kd t e => ?_, fun T hT => ?_, He.eqO_ok h3, h4⟩
  · have := List.all_eq_true.mp h1 kd (kds_all e)
    rw [e] at this
    exact this
  · exact of_decide_eq_true (List.all_eq_true.mp h2 T (by simpa using hT))
/-- what the head says: the heap holds K, the module's names, the facts -/
structure Says (bs : List (Frag → Bool)) (fn : List DefP) (K : Frag) (mg : Str → Option Value) : Prop where
  ns : ∃ h : Heap, K.In h ∧ h.Ns mainGlobals mg
  says : SaysP bs fn K
variable {bs : List (Frag → Bool)} {fn : List DefP} {mg : Str → Option Value}
theorem Says.glo (c : Says bs fn K mg) (i : Nat) {x : Str} (h : bs[i]? = some (fun K => He.Fa.ok K (.glo x)) := by rfl) : mg x = some (.ref (He.ga K x)) := let ⟨_, X, g⟩ := c.ns; He.glo_ok X g (c.says.fact i h)
theorem Says.free (c : Says bs fn K mg) (i : Nat) {x : Str} (h : bs[i]? = some (fun K => He.Fa.ok K (.free x)) := by rfl) : mg x = none := let ⟨_, X, g⟩ := c.ns; He.free_ok X g (c.says.fact i h)
theorem Says.gint (c : Says bs fn K mg) (i : Nat) {x : Str} {j : Int} {G : Ga} (h : bs[i]? = some (fun K => He.Fa.ok K (.int x j)) := by rfl) : GC mg G x (.int j) := let ⟨_, X, g⟩ := c.ns; gc_int (He.int_ok X g (c.says.fact i h))
theorem Says.gstr (c : Says bs fn K mg) (i : Nat) {x z : Str} {G : Ga} (h : bs[i]? = some (fun K => He.Fa.ok K (.str x z)) := by rfl) : GC mg G x (.str z) := let ⟨_, X, g⟩ := c.ns; gc_str (He.str_ok X g (c.says.fact i h))
end

/-- a def's record is one -/
theorem funD_uniq {K : PySem.W.Frag} {x qual x' qual' : Str} {params params' : Arguments} {body body' : List Stmt} {scope scope' : Scope} {dvs dvs' : List V} {f : Addr} {fd fd' : FuncData} (a : FunD K x qual params body scope dvs [] f fd) (b : FunD K x' qual' params' body' scope' dvs' [] f fd') : fd = fd' := by
  obtain ⟨_, _, _, _, _, _, _, _, _, _, rfl, l1, _⟩ := a.ex
  obtain ⟨_, _, _, _, _, _, _, _, _, _, rfl, l2, _⟩ := b.ex
  rw [l1] at l2
  simp only [Option.some.injEq, Obj.mk.injEq, Data.func.injEq] at l2
  exact l2.2.2.1
theorem vds_ints {G : Ga} {H : Hp} {m L : List Addr} : ∀ ns : List Int, VDs G H m L (ns.map D.int) (ns.map V.int)
  | [] => .nil
  | n :: r => .cons (.int n) (vds_ints r)
/-- the law's promise from what it asks in plain Lean -/
theorem law_sp {G : Ga} {fL : FD} {n : Nat} (h : ∀ ns : List Int, ns.length ≤ n → ∃ S, fL [.scr (ns.map .int)] [] = .ok (.bl true, S)) (H : Hp) (a : Addr) (ns : List Int) (hl : ns.length ≤ n) (hS : SqL G.K H a (ns.map V.int)) : spD G 1 fL [.ref a] H (fun v _ => v = .bl true) E0 := by
  obtain ⟨S, e⟩ := h ns hl
  have s0 : SR G [] H [] [] := ⟨rfl, .nil, (fun _ h => by cases h), (fun _ h => by cases h), fun n c a h => by simp at h⟩
  have r0 : VD G H [] (lw [] [] []) (.scr (ns.map .int)) (.ref a) := by
    refine .scr ?_ (vds_ints ns)
    rcases hS with hS | ⟨o, its, n, h1, h2⟩
    · exact .inl ⟨hS, fun z => by cases z⟩
    · exact .inr (.inr ⟨o, its, n, h1, h2⟩)
  refine ⟨rfl, [], [.scr (ns.map .int)], [], [], .cons r0 .nil, s0, ?_⟩
  rw [e]
  intro v H' m' _ _ r
  cases r with
  | bl b => rfl
end Pd
end
section
/-! Pd, part Di: what is never reached; dict of a tuple of pairs. -/
namespace Pd
open PySem PySem.Spec PyProof.Rows L2
section
variable {X : Cx} {G : Ga} {E : XK}
/-! ### what is never reached -/
def eBad : EvE := fun _ _ => .bad
def iBad : EvI := fun _ _ => .bad
theorem x_never {e : Expr} : PE X e (tX G E eBad) := ⟨fun _ _ _ _ _ _ ⟨_, _, _, _, _, _, h⟩ => h.elim⟩
theorem i_never {tg e : Expr} : PI X tg e (tI G E iBad) := ⟨fun _ _ _ _ _ _ ⟨_, _, _, _, _, _, h⟩ => h.elim⟩

/-! ### dict(t) -/
def ImmX (K : PySem.W.Frag) (H : Hp) (a : Addr) (ys : List V) : Prop := PlT H a ys ∨ (SqT K (fun _ => none) a ys ∧ PlK K a)
theorem ImmT.x {K : PySem.W.Frag} {H : Hp} {L : List Addr} {a : Addr} {ys : List V} (h : ImmT K H L a ys) : ImmX K H a ys := h.elim (fun h => .inl h.1) .inr
theorem plain_of {pins : List (Addr × Obj)} {σ : L2.St} {H : Hp} {s : Shared} {a : Addr} {ys : List V} (I : Inv X pins σ H s) (h : ImmX X.K H a ys) : ∃ its : List Value, Vals ys its ∧ PlainSeq "tuple" s.heap a its.toArray ∧ ys.length ≤ sizeLine := by
  rcases h with ⟨o, e, hd⟩ | ⟨h, o', hk', hd⟩
  · obtain ⟨e1, z, its, r, o2, e2, hc, n, hdat⟩ := I.hok a _ e
    rw [e1] at e2
    cases e2
    exact ⟨its, r, ⟨o, n, e1, hc, hd, hdat⟩, z⟩
  · rcases h with (h | ⟨_, h⟩) | ⟨o, its, n, hk, hc, hs, hz, r⟩
    · cases h
    · cases h
    · have eo : o = o' := Option.some.inj (hk.symm.trans hk')
      subst eo
      refine ⟨its.toList, r, ⟨o, n, I.kIn a o hk, hc, hd, by simpa using hs⟩, ?_⟩
      have e := r.length
      simp only [Array.length_toList] at e
      omega
theorem pairs2 {pins : List (Addr × Obj)} {σ : L2.St} {H : Hp} {s : Shared} (I : Inv X pins σ H s) : ∀ {ps : List Addr} {kvs : List (Key × V)}, Paired (fun p kv => SqT X.K H p [kV kv.1, kv.2]) ps kvs →
    ∃ prs : List (Key × Value × Value), KV kvs (prs.map fun q => (q.1, q.2.2)) ∧ prs.length = ps.length ∧ ∀ (j : Nat) (q : Key × Value × Value), prs[j]? = some q → ∃ b, ps[j]? = some b ∧ IsTup s.heap b #[q.2.1, q.2.2] ∧ keyIs q.1 q.2.1 = true
  | _, _, .nil => ⟨[], .nil, rfl, fun j q e => by simp at e⟩
  | _, _, .cons (a := p) (b := kv) h t => by
    obtain ⟨prs, r, hl, hp⟩ := pairs2 I t
    obtain ⟨its, rv, ht, _⟩ := I.tuple h
    obtain ⟨u, y, ei, ru, ry⟩ := vals2 rv
    subst ei
    refine ⟨(kv.1, u, y) :: prs, .cons ⟨rfl, ry⟩ r, by simp [hl], fun j q e => ?_⟩
    cases j with
    | zero =>
      obtain rfl : (kv.1, u, y) = q := Option.some.inj e
      exact ⟨p, rfl, ht, kV_is (P := X.prog) (w := X.w) ru⟩
    | succ j =>
      obtain ⟨b, e1, e2, e3⟩ := hp j q (by simpa using e)
      exact ⟨b, by simpa using e1, e2, e3⟩
theorem call_dictTP (hcalm : X.calm = true) : CallR X (.type "dict") (fun xs H Q => ∃ (a : Addr) (ps : List Addr) (kvs : List (Key × V)), xs = [.ref a] ∧ ImmX X.K H a (ps.map V.ref) ∧ Paired (fun p kv => SqT X.K H p [kV kv.1, kv.2]) ps kvs ∧
    ∀ p, H p = none → Q (.ref p) (upd H p (.dK (mergeK [] kvs)))) := by
  intro pins s σ H xs us Q I r ⟨a, ps, kvs, ex, hq, hp, q⟩
  subst ex
  obtain ⟨u, eu, rx⟩ := vals1 r
  subst eu
  cases rx
  obtain ⟨its, rv, pl, hz⟩ := plain_of I hq
  have ei := refs_at rv
  subst ei
  rw [List.length_map] at hz
  obtain ⟨prs, rel, hl, hpr⟩ := pairs2 I hp
  let psV : List (Value × Value) := prs.map fun q => (q.2.1, q.2.2)
  let Ts : Nat → Addr := fun j => ps.getD j 0
  have hT : ∀ {j : Nat} {b : Addr}, ps[j]? = some b → Ts j = b := fun {j b} e => by simp [Ts, List.getD_eq_getElem?_getD, e]
  have PI : PairItems s.heap (ps.map Value.ref).toArray Ts psV := by
    refine ⟨by simp [psV, hl], fun j k v e => ?_⟩
    obtain ⟨q0, e0, e1⟩ := Option.map_eq_some_iff.mp (by simpa [psV, List.getElem?_map] using e : (prs[j]?).map (fun q => (q.2.1, q.2.2)) = some (k, v))
    obtain ⟨b, b1, b2, b3⟩ := hpr j q0 e0
    cases e1
    rw [hT b1]
    exact ⟨by simp [b1], .inl b2⟩
  have PH : PairsHave (mixKind X.prog X.w) psV.length (PairRel psV) (prs.map fun q => (q.1, q.2.2)) := by
    refine ⟨by simp [psV], fun i key v e => ?_⟩
    obtain ⟨q0, e0, e1⟩ := Option.map_eq_some_iff.mp (by simpa [PairRel, psV, List.getElem?_map] using e : (prs[i]?).map (fun q => (q.2.1, q.2.2)) = some (key, v))
    obtain ⟨b, b1, b2, b3⟩ := hpr i q0 e0
    cases e1
    exact ⟨q0.1, by simp [e0], b3⟩
  have hlp : psV.length ≤ sizeLine := by simp only [psV, List.length_map]; omega
  refine PySem.call_dict_pairs (PairArg.tuple a (ps.map Value.ref).toArray Ts psV) (I.ok.hd hcalm) ⟨pl, PI⟩ PH hlp fun h' tk hd' k => ?_
  have k' : ∀ b o, s.heap.get? b = some o → h'.get? b = some o := fun b o e => k b o (by simp) e
  have hm : (s.heap.objs.size == sysModules) = false := beq_eq_false_iff_ne.mpr (Nat.ne_of_gt I.big)
  have hlen : (mergeK [] kvs).length ≤ sizeLine := by
    refine Nat.le_trans (length_mergeK kvs []) ?_
    have := rel.length
    rw [List.length_map] at this
    rw [List.length_nil, Nat.zero_add]
    omega
  exact ⟨.ref s.heap.objs.size, upd H s.heap.objs.size (.dK (mergeK [] kvs)), I.laid (t' := tk) k' (Nat.le_refl _) (show ObjOk X.prog X.w _ _ _ (.dK (mergeK [] kvs)) from ⟨hlen, hm, merged [] (prs.map fun q => (q.1, q.2.2)), KV.merge rel .nil, hd'⟩), rfl, q _ (I.hok.fresh (Nat.le_refl _))⟩

/-! ### by data -/
def keyD : D → Option Key
  | .str s => some (.inr s)
  | .int i => some (.inl i)
  | _ => none
def pairsD : List D → Option (List (Key × D))
  | [] => some []
  | .tup [k, v] :: r => match keyD k with
    | some q => (pairsD r).map ((q, v) :: ·)
    | none => none
  | _ => none
def putD (kvs : List (Key × D)) (k : Key) (v : D) : List (Key × D) :=
  if (kvs.any fun kv => decide (kv.1 = k)) = true then kvs.map (fun kv => if kv.1 = k then (kv.1, v) else kv) else kvs ++ [(k, v)]
def mergeD (kvs more : List (Key × D)) : List (Key × D) := more.foldl (fun acc kv => putD acc kv.1 kv.2) kvs
section
variable {H : Hp} {m L : List Addr}
theorem KDs.any {k : Key} : ∀ {ks : List (Key × D)} {gs : List (Key × V)}, KDs G H m L ks gs → (ks.any fun kv => decide (kv.1 = k)) = (gs.any fun kv => decide (kv.1 = k))
  | _, _, .nil => rfl
  | _, _, .cons _ r => by rw [List.any_cons, List.any_cons, KDs.any r]
theorem KDs.repl {k : Key} {d : D} {v : V} (h : VD G H m L d v) : ∀ {ks : List (Key × D)} {gs : List (Key × V)}, KDs G H m L ks gs → KDs G H m L (ks.map fun kv => if kv.1 = k then (kv.1, d) else kv) (gs.map fun kv => if kv.1 = k then (kv.1, v) else kv)
  | _, _, .nil => .nil
  | _, _, .cons (x := x) a r => by
    rw [List.map_cons, List.map_cons]
    by_cases q : x = k
    · rw [if_pos q, if_pos q]; exact .cons h (KDs.repl h r)
    · rw [if_neg q, if_neg q]; exact .cons a (KDs.repl h r)
theorem KDs.snoc {k : Key} {d : D} {v : V} (h : VD G H m L d v) : ∀ {ks : List (Key × D)} {gs : List (Key × V)}, KDs G H m L ks gs → KDs G H m L (ks ++ [(k, d)]) (gs ++ [(k, v)])
  | _, _, .nil => .cons h .nil
  | _, _, .cons a r => .cons a (KDs.snoc h r)
theorem KDs.put {k : Key} {d : D} {v : V} {ks : List (Key × D)} {gs : List (Key × V)} (r : KDs G H m L ks gs) (h : VD G H m L d v) : KDs G H m L (putD ks k d) (putK gs k v) := by
  unfold putD putK
  rw [r.any]
  split
  · exact r.repl h
  · exact r.snoc h
theorem KDs.mergeD : ∀ {more : List (Key × D)} {mv : List (Key × V)} {ks : List (Key × D)} {gs : List (Key × V)}, KDs G H m L more mv → KDs G H m L ks gs → KDs G H m L (mergeD ks more) (mergeK gs mv)
  | _, _, _, _, .nil, r => r
  | _, _, _, _, .cons a t, r => (KDs.mergeD t (r.put a) : KDs G H m L (Pd.mergeD (putD _ _ _) _) (mergeK (putK _ _ _) _))
theorem keyD_kV {k : D} {v : V} {q : Key} (h : VD G H m L k v) (e : keyD k = some q) : v = kV q := by
  cases h <;> first | (cases e; rfl) | cases e
theorem pairs_vd : ∀ {xs : List D} {ys : List V} {ks : List (Key × D)}, VDs G H m L xs ys → pairsD xs = some ks → ∃ (ps : List Addr) (gs : List (Key × V)), ys = ps.map V.ref ∧ Paired (fun p kv => SqT G.K H p [kV kv.1, kv.2]) ps gs ∧ KDs G H m L ks gs
  | [], _, _, .nil, e => by cases e; exact ⟨[], [], rfl, .nil, .nil⟩
  | d :: ds, _, ks, .cons (v := v) (vs := vs) h t, e => by
    unfold pairsD at e
    split at e
    · rename_i q; cases q
    · rename_i k u r q
      cases q
      split at e
      · rename_i key hk
        obtain ⟨ks', e', rfl⟩ := Option.map_eq_some_iff.mp e
        obtain ⟨ps, gs, rfl, hp, hg⟩ := pairs_vd t e'
        cases h with
        | tup hi hs =>
          cases hs with
          | cons h1 h2 =>
            cases h2 with
            | cons h2 h3 =>
              cases h3
              rw [keyD_kV h1 hk] at hi
              exact ⟨_ :: ps, (key, _) :: gs, rfl, .cons hi.sq hp, .cons h2 hg⟩
      · cases e
    · cases e
end
/-- dict(t), a dict that is changed -/
def dictC : Fb := fun S ds => match ds with
  | [.tup xs] => (pairsD xs).map fun ks => (.ref S.length, S ++ [.dct (mergeD [] ks)])
  | _ => none
def dictF : Fb := fun S ds => match ds with
  | [.tup xs] => (pairsD xs).map fun ks => (.dct (mergeD [] ks), S)
  | _ => none
def rDictT (K : PySem.W.Frag) : List V → Hp → VK → Prop := fun xs H Q => ∃ (a : Addr) (ps : List Addr) (kvs : List (Key × V)), xs = [.ref a] ∧ ImmX K H a (ps.map V.ref) ∧ Paired (fun p kv => SqT K H p [kV kv.1, kv.2]) ps kvs ∧
    ∀ p, H p = none → Q (.ref p) (upd H p (.dK (mergeK [] kvs)))
theorem call_dictW (W : Wf X G) (hc : X.calm = true) : CallR X (.type "dict") (rDictT G.K) := by
  have h := call_dictTP (X := X) hc
  rw [W.K] at h
  exact h
theorem f_dictC : FnS G E (rDictT G.K) dictC := by
  intro F S H m ds vs Q s rd q
  unfold dictC at q
  split at q
  · rename_i xs
    cases rd with
    | cons r1 r2 =>
      cases r2
      cases e : pairsD xs with
      | none => rw [e] at q; exact q.elim
      | some ks =>
        rw [e] at q
        cases r1 with
        | tup hi hs =>
          obtain ⟨ps, gs, rfl, hp, hg⟩ := pairs_vd hs e
          exact ⟨_, ps, gs, rfl, hi.x, hp, fun p hp' => RunE.madeC q s hp' ⟨_, upd_same, (KDs.mergeD hg .nil).mono (Kp.push s hp')⟩⟩
  · exact q.elim
theorem f_dict : FnS G E (rDictT G.K) dictF := by
  intro F S H m ds vs Q s rd q
  unfold dictF at q
  split at q
  · rename_i xs
    cases rd with
    | cons r1 r2 =>
      cases r2
      cases e : pairsD xs with
      | none => rw [e] at q; exact q.elim
      | some ks =>
        rw [e] at q
        cases r1 with
        | tup hi hs =>
          obtain ⟨ps, gs, rfl, hp, hg⟩ := pairs_vd hs e
          exact ⟨_, ps, gs, rfl, hi.x, hp, fun p hp' => RunE.made q s hp' (.dct upd_same (fun z => s.freshF hp' z) ((KDs.mergeD hg .nil).mono (Kp.new s hp')))⟩
  · exact q.elim
end
end Pd
end
section
/-! Pd, part Gr: a comprehension whose list is changed later. -/
namespace Pd
open PySem PySem.Spec PyProof.Rows L2
def eLcC (fi : EvI) (vs : List Nat) (g : Tg) (tt : EvT) (te : EvE) : EvE := fun ρ S => (fi ρ S).bind fun p => (lcL g tt te (wipeD ρ vs) p.1 [] p.2).bind fun q => .ok (.ref q.2.length, q.2 ++ [Cell.lst q.1])
section
variable {G : Ga} {F : List Addr} {H H' : Hp} {m m' L L' : List Addr} {S : Store}
theorem CellOk.mono0 {c : Cell} {a : Addr} (k : Kp H m L H' m' L') (ha : H' a = H a) (h : CellOk G H m L c a) : CellOk G H' m' L' c a := by
  cases c with
  | dead => trivial
  | lst xs =>
    obtain ⟨ys, h1, h2⟩ := h
    exact ⟨ys, ha.trans h1, h2.mono0 k⟩
  | ins c fs =>
    obtain ⟨C, dx, gs, hc, h1, h2⟩ := h
    exact ⟨C, dx, gs, hc, ha.trans h1, h2.mono0 k⟩
  | dct ks =>
    obtain ⟨gs, h1, h2⟩ := h
    exact ⟨gs, ha.trans h1, h2.mono0 k⟩
  | tbl i =>
    obtain ⟨q, ps, h0, h1, h2, h3⟩ := h
    refine ⟨q, ps, h0, ha.trans h1, h2, fun pos cv e => ?_⟩
    obtain ⟨c, e1, e2, n⟩ := h3 pos cv e
    refine ⟨c, e1, k.same _ _ e2 n, fun z => ?_⟩
    rcases k.news _ z with z | z
    · exact n z
    · rw [e2] at z; cases z
theorem SR.grow {D : Addr} {av : List V} {acc : List Pd.D} (s : SR G (D :: F) H m S) (hD : H D = some (.lst av)) (r : VDs G H m (lw (D :: F) m S) acc av) (nF : D ∉ F) : SR G F H (m ++ [D]) (S ++ [.lst acc]) := by
  have nm : D ∉ m := (s.ftr D List.mem_cons_self).2
  have k : Kp H m (lw (D :: F) m S) H (m ++ [D]) (lw F (m ++ [D]) (S ++ [.lst acc])) :=
    ⟨fun b u h _ => h, fun b h => .inl (by
      rcases List.mem_append.mp h with h | h
      · exact List.mem_append_left _ (List.mem_cons_of_mem _ h)
      · rcases lv_push s.len b h with h | h
        · exact List.mem_append_right _ h
        · rw [h]; exact List.mem_append_left _ List.mem_cons_self), fun n a h => by rw [List.getElem?_append_left (List.getElem?_eq_some_iff.mp h).1]; exact h⟩
  refine ⟨by simp [s.len], ?_, ?_, ?_, ?_⟩
  · rw [List.nodup_append]
    refine ⟨s.nd, by simp, fun a ha b hb => ?_⟩
    have e : b = D := by simpa using hb
    subst e
    exact fun z => nm (z ▸ ha)
  · intro a h
    rcases List.mem_append.mp h with h | h
    · exact s.trk a h
    · have e : a = D := by simpa using h
      subst e
      exact ⟨_, hD⟩
  · intro a h
    obtain ⟨u, n⟩ := s.ftr a (List.mem_cons_of_mem _ h)
    refine ⟨u, fun z => ?_⟩
    rcases List.mem_append.mp z with z | z
    · exact n z
    · have e : a = D := by simpa using z
      exact nF (e ▸ h)
  · intro n d a h1 h2
    by_cases q : n < m.length
    · rw [List.getElem?_append_left q] at h2
      rw [List.getElem?_append_left (by rw [s.len]; exact q)] at h1
      exact (s.cell n d a h1 h2).mono0 k rfl
    · have e : n = m.length := by
        have : n < (m ++ [D]).length := (List.getElem?_eq_some_iff.mp h2).1
        simp at this
        omega
      subst e
      have e1 : (S ++ [Cell.lst acc])[m.length]? = some (.lst acc) := by rw [← s.len]; simp
      rw [e1] at h1
      cases h1
      have e2 : a = D := by simpa using h2.symm
      subst e2
      exact ⟨av, hD, r.mono0 k⟩
theorem Kp.grow {H1 : Hp} {m1 : List Addr} {D : Addr} {acc : List Pd.D} (k : Kp H1 m1 L H m (lv m S)) (s : SR G (D :: F) H m S) (hD : H1 D = none) : Kp H1 m1 L H (m ++ [D]) (lv (m ++ [D]) (S ++ [.lst acc])) :=
  ⟨k.same, fun b h => by
    rcases lv_push s.len b h with h | h
    · exact k.news b h
    · exact .inr (h ▸ hD), fun n a h => by
      have := k.ext n a h
      rw [List.getElem?_append_left (List.getElem?_eq_some_iff.mp this).1]; exact this⟩
end
section
variable {X : Cx} {G : Ga} {E : XK} {e a b c : Expr} {f fa fb fc : EvE} {pos : Pos}
theorem tLcC_of {wi : TI} {gt : TG} {tt : TT} {te : TE} {fi : EvI} {g : Tg} {ft : EvT} {fe : EvE} {vs ts : List Nat} (hi : ∀ σ H R, tI G E fi σ H R → wi σ H R) (ok : TgOk G gt g ts) (hsub : ∀ i ∈ ts, i ∈ vs)
    (ht : ∀ σ H Q, tT G E0 ft σ H Q → tt σ H Q) (he : ∀ σ H Q, tX G E0 fe σ H Q → te σ H Q) {σ : L2.St} {Q : VK} (h : tX G E (eLcC fi vs g ft fe) σ H Q) : tLc wi gt tt te vs σ H Q := by
  obtain ⟨F, ρ, m, S, hE, hS, h⟩ := h
  refine hi _ _ _ ⟨F, ρ, m, S, hE, hS, ?_⟩
  unfold eLcC at h
  cases q : fi ρ S with
  | exc x S' => rw [q] at h; exact h
  | bad => rw [q] at h; exact h
  | ok a =>
    obtain ⟨xs, S1⟩ := a
    rw [q] at h
    intro J H1 m1 k1 s1 w1 D hD
    have e1 := hE.mono k1
    have h1 : RunE G E F ((lcL g ft fe (wipeD ρ vs) xs [] S1).bind fun q => .ok (.ref q.2.length, q.2 ++ [Cell.lst q.1])) H1 m1 (lv m1 S1) Q := RunE.mono k1 h
    have kD : Kp H1 m1 (lv m1 S1) (upd H1 D (.lst [])) m1 (lv m1 S1) := Kp.new s1 hD
    refine ⟨fun i mm H2 => mm = xs.length - i ∧ i ≤ xs.length ∧ ∃ m2 S2 acc av, H2 D = some (.lst av) ∧ VDs G H2 m2 (lw (D :: F) m2 S2) acc av ∧ (∀ d v, VD G H1 m1 (lw F m1 S1) d v → VD G H2 m2 (lw (D :: F) m2 S2) d v) ∧ SR G (D :: F) H2 m2 S2 ∧ Kp H1 m1 (lv m1 S1) H2 m2 (lv m2 S2) ∧
        RunE G E F ((lcL g ft fe (wipeD ρ vs) (xs.drop i) acc S2).bind fun q => .ok (.ref q.2.length, q.2 ++ [Cell.lst q.1])) H1 m1 (lv m1 S1) Q,
      ⟨_, rfl, Nat.zero_le _, m1, S1, [], [], upd_same, .nil, fun _ _ r => VD.hide hD r, s1.hide hD, kD, h1⟩, ?_⟩
    rintro i mm H2 ⟨rfl, hi2, m2, S2, acc, av, hD2, ra, tr, s2, k2, h2⟩
    have e2 : EnvR G H2 m2 (lw (D :: F) m2 S2) (wipeD ρ vs) (wipe σ vs) := by
      obtain ⟨a1, a2⟩ := e1.wipe vs
      exact ⟨a1, fun i d e => let ⟨v, b1, b2⟩ := a2 i d e; ⟨v, b1, tr _ _ b2⟩⟩
    obtain ⟨w2, w3⟩ := w1 (D :: F) H2 m2 S2 tr s2
    cases q1 : xs[i]? with
    | none =>
      have hle := List.getElem?_eq_none_iff.mp q1
      rw [List.drop_of_length_le hle] at h2
      have nD : D ∉ lw F m2 S2 := fun z => by
        rcases List.mem_append.mp z with z | z
        · obtain ⟨⟨u, e⟩, _⟩ := s1.ftr D z
          rw [hD] at e; cases e
        · exact (s2.ftr D List.mem_cons_self).2 (lv_sub z)
      have nF : D ∉ F := fun z => by
        obtain ⟨⟨u, e⟩, _⟩ := s1.ftr D z
        rw [hD] at e; cases e
      exact .inl ⟨w3 i hle, (show RunE G E F (.ok (.ref S2.length, S2 ++ [.lst acc])) H1 m1 (lv m1 S1) Q from h2) _ _ (m2 ++ [D]) (Kp.grow k2 s2 hD) (SR.grow s2 hD2 ra nF) (.ref (by rw [s2.len]; simp))⟩
    | some d =>
      have hlt : i < xs.length := (List.getElem?_eq_some_iff.mp q1).1
      rw [drop_of q1] at h2
      refine .inr ⟨(w2 i d q1).1, fun H' => ∃ m2 S2 acc av, H' D = some (.lst av) ∧ VDs G H' m2 (lw (D :: F) m2 S2) acc av ∧ (∀ d v, VD G H1 m1 (lw F m1 S1) d v → VD G H' m2 (lw (D :: F) m2 S2) d v) ∧ SR G (D :: F) H' m2 S2 ∧ Kp H1 m1 (lv m1 S1) H' m2 (lv m2 S2) ∧
          RunE G E F ((lcL g ft fe (wipeD ρ vs) (xs.drop (i + 1)) acc S2).bind fun q => .ok (.ref q.2.length, q.2 ++ [Cell.lst q.1])) H1 m1 (lv m1 S1) Q,
        fun H' n => ⟨xs.length - (i + 1), by omega, rfl, hlt, n⟩, fun x H3 y => ?_⟩
      obtain ⟨k3, s3, r3⟩ := (w2 i d q1).2 x H3 y
      have e3 := e2.mono k3
      have h3 := h2
      have inD : D ∈ D :: F := List.mem_cons_self
      have nL : D ∉ lv m2 S2 := fun z => (s2.ftr D inD).2 (lv_sub z)
      have hD3 : H3 D = some (.lst av) := k3.same _ _ hD2 nL
      unfold lcL at h3
      cases q0 : g d (wipeD ρ vs) with
      | none => simp only [q0] at h3; exact h3.elim
      | some ρ0 =>
        simp only [q0] at h3
        refine ok _ ρ0 _ H3 m2 _ d x _ e3 r3 q0 fun σ4 e4 o4 => ⟨(wipe_only o4 hsub).trans wipe_wipe, ht _ _ _ ?_⟩
        rw [bind0_bind] at h3
        refine tT_step e4 s3 h3 fun b S5 H5 m5 k5 e5 s5 h5 => ?_
        have nL5 : D ∉ lv m2 S2 := nL
        have hD5 : H5 D = some (.lst av) := k5.same _ _ hD3 nL
        have tr5 : ∀ d v, VD G H1 m1 (lw F m1 S1) d v → VD G H5 m5 (lw (D :: F) m5 S5) d v := fun d v r => ((tr d v r).mono k3).mono k5
        have ra5 := (ra.mono k3).mono k5
        cases b with
        | false =>
          rw [if_neg Bool.false_ne_true]
          exact ⟨m5, S5, acc, av, hD5, ra5, tr5, s5, (k2.trans k3).trans k5, h5⟩
        | true =>
          rw [if_pos rfl]
          simp only [if_true] at h5
          rw [bind0_bind] at h5
          refine he _ _ _ (tX_step e5 s5 h5 fun z S6 v H6 m6 k6 e6 s6 r6 h6 => ?_)
          have nL6 : D ∉ lv m5 S5 := fun z => (s5.ftr D inD).2 (lv_sub z)
          have hD6 : H6 D = some (.lst av) := k6.same _ _ hD5 nL6
          have ra6 := ra5.mono k6
          revert h6
          simp only
          split
          · rename_i hz
            intro h6
            have hz' : av.length < sizeLine := by rw [← ra6.length, sizeLine_eq]; exact hz
            have inW : D ∈ lw (D :: F) m6 S6 := List.mem_append_left _ inD
            exact ⟨av, hD6, hz', m6, S6, acc ++ [z], av ++ [v], upd_same, (VDs.blind inW ra6).append (.cons (VD.blind inW r6) .nil), fun d v r => VD.blind inW ((tr5 d v r).mono k6), s6.blind inD, Kp.blind (((k2.trans k3).trans k5).trans k6) hD, h6⟩
          · intro h6; exact h6.elim
theorem x_lcC (W : Wf X G) (hc : X.calm = true) (hN : X.N.Nodup) {elt tg iter : Expr} {ifs : List Expr} {scope : Scope} {own : List (Str × Nat)} {fi : EvI} {gt : TG} {g : Tg} {ts : List Nat} {ft : EvT} {fe : EvE} (hi : PI X tg iter (tI G E fi)) (ok : BlkOk X.N X.env.scope scope own)
    (hg : ∀ (s : Shared) (H : Hp) (C : Addr) (cl : List (Str × Addr)) (fp : List Addr), PG (X.blk s H scope (compEnvC scope cl C X.env) fp) tg gt) (okT : TgOk G gt g ts) (hsub : ∀ i ∈ ts, i ∈ own.map (·.2))
    (ht : ∀ (s : Shared) (H : Hp) (C : Addr) (cl : List (Str × Addr)) (fp : List Addr), PTs (X.blk s H scope (compEnvC scope cl C X.env) fp) ifs (tT G E0 ft))
    (he : ∀ (s : Shared) (H : Hp) (C : Addr) (cl : List (Str × Addr)) (fp : List Addr), PE (X.blk s H scope (compEnvC scope cl C X.env) fp) elt (tX G E0 fe)) (hs : ∀ x, foldedSetIterable iter X.env x = pure x := by intro _; rfl) :
    PE X (.ListComp elt [⟨tg, iter, ifs, 0⟩] scope pos) (tX G E (eLcC fi (own.map (·.2)) g ft fe)) :=
  PE.weak (pe_lc hc hN hi ok hg ht he hs) fun _ _ _ h => tLcC_of (fun _ _ _ h => h) okT hsub (fun _ _ _ h => h) (fun _ _ _ h => h) h
/-- name = [..] -/
theorem s_setLcC (W : Wf X G) (hc : X.calm = true) (hN : X.N.Nodup) {i : Nat} {y : Str} {py spos : Pos} {elt tg iter : Expr} {ifs : List Expr} {scope : Scope} {own : List (Str × Nat)} {fi : EvI} {gt : TG} {g : Tg} {ts : List Nat} {ft : EvT} {fe : EvE} (hi : PI X tg iter (tI G E fi)) (ok : BlkOk X.N X.env.scope scope own)
    (hg : ∀ (s : Shared) (H : Hp) (C : Addr) (cl : List (Str × Addr)) (fp : List Addr), PG (X.blk s H scope (compEnvC scope cl C X.env) fp) tg gt) (okT : TgOk G gt g ts) (hsub : ∀ i ∈ ts, i ∈ own.map (·.2))
    (ht : ∀ (s : Shared) (H : Hp) (C : Addr) (cl : List (Str × Addr)) (fp : List Addr), PTs (X.blk s H scope (compEnvC scope cl C X.env) fp) ifs (tT G E0 ft))
    (he : ∀ (s : Shared) (H : Hp) (C : Addr) (cl : List (Str × Addr)) (fp : List Addr), PE (X.blk s H scope (compEnvC scope cl C X.env) fp) elt (tX G E0 fe))
    (hy : X.N[i]? = some y := by rfl) (hyl : X.env.scope.names.lookup y = some .local := by rfl) (hsw : swapsWith (.ListComp elt [⟨tg, iter, ifs, 0⟩] scope pos) (some (.Name y py)) spos.line X.env = pure true := by exact sw_true rfl rfl rfl (by decide +kernel)) (hs : ∀ x, foldedSetIterable iter X.env x = pure x := by intro _; rfl) :
    PS X (.Assign [.Name y py] (.ListComp elt [⟨tg, iter, ifs, 0⟩] scope pos) spos) (tS G E (sSet i (eLcC fi (own.map (·.2)) g ft fe))) :=
  PS.weak (ps_setLc hc hN hy hyl hsw hi ok hg ht he hs) fun Dn σ H ⟨F, ρ, m, S, hE, hS, h⟩ => tLcC_of (fun _ _ _ h => h) okT hsub (fun _ _ _ h => h) (fun _ _ _ h => h) (tX_out hE hS h fun d S1 v H1 m1 k1 e1 s1 r1 h1 => RunS.nxt h1 s1 (e1.set r1))
end
end Pd
end
section
/-! Pd, part W: sorted; what a block of a comprehension needs. -/
namespace Pd
open PySem PySem.Spec PyProof.Rows L2

theorem eq_of_sorted {α : Type} {le : α → α → Prop} (anti : ∀ a b, le a b → le b a → a = b) : ∀ {l m : List α}, l.Pairwise le → m.Pairwise le → l.Perm m → l = m
  | [], m, _, _, p => (List.nil_perm.mp p).symm
  | a :: l, [], _, _, p => by have := p.length_eq; simp at this
  | a :: l, b :: m, hl, hm, p => by
    have e : a = b := by
      rcases List.mem_cons.mp (p.mem_iff.mp (List.mem_cons_self (a := a) (l := l))) with e | ha
      · exact e
      rcases List.mem_cons.mp (p.mem_iff.mpr (List.mem_cons_self (a := b) (l := m))) with e | hb
      · exact e.symm
      exact anti a b (List.rel_of_pairwise_cons hl hb) (List.rel_of_pairwise_cons hm ha)
    subst e
    rw [eq_of_sorted anti (List.pairwise_cons.mp hl).2 (List.pairwise_cons.mp hm).2 ((List.perm_cons a).mp p)]
theorem ltC_irrefl : ∀ a : List Nat, ltCps a a = false
  | [] => rfl
  | a :: r => by simp [ltCps, ltC_irrefl r]
theorem ltC_total : ∀ a b : List Nat, ltCps a b = false → ltCps b a = false → a = b
  | [], [], _, _ => rfl
  | [], _ :: _, h, _ => by cases h
  | _ :: _, [], _, h => by cases h
  | a :: r, b :: t, h1, h2 => by
    simp only [ltCps, Bool.or_eq_false_iff, decide_eq_false_iff_not, Bool.and_eq_false_iff, beq_eq_false_iff_ne] at h1 h2
    have e : a = b := by omega
    subst e
    have k1 : ltCps r t = false := by rcases h1.2 with h | h; exact absurd rfl h; exact h
    have k2 : ltCps t r = false := by rcases h2.2 with h | h; exact absurd rfl h; exact h
    rw [ltC_total r t k1 k2]
theorem ltC_trans : ∀ a b c : List Nat, ltCps b a = false → ltCps c b = false → ltCps c a = false
  | a, b, [], h1, h2 => by
    cases a with
    | nil => rfl
    | cons x r => cases b with
      | nil => cases h1
      | cons y t => cases h2
  | [], b, _ :: _, _, _ => by cases b <;> rfl
  | x :: r, [], z :: u, h1, _ => by cases h1
  | x :: r, y :: t, z :: u, h1, h2 => by
    simp only [ltCps, Bool.or_eq_false_iff, decide_eq_false_iff_not, Bool.and_eq_false_iff, beq_eq_false_iff_ne] at h1 h2 ⊢
    refine ⟨by omega, ?_⟩
    by_cases e : z = x
    · right
      have e1 : y = x := by omega
      have e2 : z = y := by omega
      have k1 : ltCps t r = false := by rcases h1.2 with h | h; exact absurd e1 h; exact h
      have k2 : ltCps u t = false := by rcases h2.2 with h | h; exact absurd e2 h; exact h
      exact ltC_trans r t u k1 k2
    · exact .inl e
theorem ltC_asymm (a b : List Nat) (h : ltCps a b = true) : ltCps b a = false := by
  cases q : ltCps b a with
  | false => rfl
  | true =>
    exfalso
    -- a < b and b < a
    have : ∀ a b : List Nat, ltCps a b = true → ltCps b a = true → False := by
      intro a
      induction a with
      | nil => intro b _ h2; cases b <;> cases h2
      | cons x r ih =>
        intro b h1 h2
        cases b with
        | nil => cases h1
        | cons y t =>
          simp only [ltCps, Bool.or_eq_true, decide_eq_true_eq, Bool.and_eq_true, beq_iff_eq] at h1 h2
          rcases h1 with h1 | ⟨e1, h1⟩
          · rcases h2 with h2 | ⟨e2, h2⟩ <;> omega
          · rcases h2 with h2 | ⟨e2, h2⟩
            · omega
            · exact ih t h1 h2
    exact this a b h q
def leS (a b : Str) : Bool := !ltCps b.cps.toList a.cps.toList
def sortS (xs : List Str) : List Str := xs.mergeSort leS
def sortI (xs : List Int) : List Int := xs.mergeSort fun a b => decide (a ≤ b)
theorem leS_anti (a b : Str) (h1 : leS a b = true) (h2 : leS b a = true) : a = b := by
  simp only [leS, Bool.not_eq_true'] at h1 h2
  exact TL.ext_tl (ltC_total _ _ h2 h1)
theorem leS_trans (a b c : Str) (h1 : leS a b = true) (h2 : leS b c = true) : leS a c = true := by
  simp only [leS, Bool.not_eq_true'] at h1 h2 ⊢
  exact ltC_trans _ _ _ h1 h2
theorem leS_total (a b : Str) : (leS a b || leS b a) = true := by
  simp only [leS, Bool.or_eq_true, Bool.not_eq_true']
  cases q : ltCps b.cps.toList a.cps.toList with
  | false => exact .inl rfl
  | true => exact .inr (ltC_asymm _ _ q)
theorem sortS_perm (xs : List Str) : (sortS xs).Perm xs := List.mergeSort_perm ..
theorem sortS_sorted (xs : List Str) : (sortS xs).Pairwise fun a b => leS a b = true := List.pairwise_mergeSort leS_trans leS_total xs
theorem sorted_pw : ∀ {l : List Str}, sortedS l = true → l.Pairwise fun a b => leS a b = true
  | [], _ => .nil
  | x :: r, h => by
    have key : ∀ (p : Str) (l : List Str), risingS p l = true → (p :: l).Pairwise fun a b => leS a b = true := by
      intro p l
      induction l generalizing p with
      | nil => intro _; simp
      | cons y t ih =>
        intro hh
        have hh' : leS p y = true ∧ risingS y t = true := by
          have : (!ltCps y.cps.toList p.cps.toList && risingS y t) = true := hh
          simpa only [leS, Bool.and_eq_true] using this
        have h2 := ih y hh'.2
        refine List.pairwise_cons.mpr ⟨fun z hz => ?_, h2⟩
        rcases List.mem_cons.mp hz with rfl | hz
        · exact hh'.1
        · exact leS_trans _ _ _ hh'.1 (List.rel_of_pairwise_cons h2 hz)
    exact key x r h
theorem sortS_uniq {xs ys : List Str} (p : ys.Perm xs) (h : sortedS ys = true) : ys = sortS xs :=
  eq_of_sorted leS_anti (sorted_pw h) (sortS_sorted xs) (p.trans (sortS_perm xs).symm)
theorem sortI_perm (xs : List Int) : (sortI xs).Perm xs := List.mergeSort_perm ..
theorem sortI_sorted (xs : List Int) : (sortI xs).Pairwise (· ≤ ·) := by
  have := List.pairwise_mergeSort (le := fun a b : Int => decide (a ≤ b)) (by intro a b c; simp; omega) (by intro a b; simp; omega) xs
  exact this.imp fun h => by simpa using h
theorem sortI_uniq {xs ys : List Int} (p : ys.Perm xs) (h : ys.Pairwise (· ≤ ·)) : ys = sortI xs :=
  eq_of_sorted (fun a b h1 h2 => by omega) h (sortI_sorted xs) (p.trans (sortI_perm xs).symm)

/-- sorted(..) of texts, of ints -/
def sortedF : Fb := fun S ds => match ds with
  | [d] => match seqL S d with
    | some xs => if xs.length < 64 then match strsD xs with
        | some ys => some (.lst ((sortS ys).map .str), S)
        | none => match intsD xs with
          | some ns => some (.lst ((sortI ns).map .int), S)
          | none => none
      else none
    | none => none
  | _ => none
section
variable {G : Ga} {E : XK}
theorem VDs.intsW {H : Hp} {m L : List Addr} : ∀ ys : List Int, VDs G H m L (ys.map D.int) (ys.map V.int)
  | [] => .nil
  | y :: r => .cons (.int y) (VDs.intsW r)
theorem f_sorted : FnS G E (fun xs H Q => rSortedS G.K xs H Q ∨ rSorted G.K xs H Q) sortedF := by
  intro F S H m ds vs Q s rd q
  unfold sortedF at q
  split at q
  · rename_i d
    split at q
    · rename_i xs hx
      split at q
      · rename_i hl
        cases rd with
        | cons r1 r2 =>
          cases r2
          obtain ⟨a, ys, rfl, h3, h4⟩ := seqL_ok s r1 hx
          cases e1 : strsD xs with
          | some zs =>
            simp only [e1] at q
            have ey := strs_ok h4 e1
            subst ey
            have hlz : zs.length < 64 := by have := h4.length; rw [List.length_map] at this; omega
            refine .inl ⟨a, zs, rfl, h3, hlz, fun ws p hp hs hn => ?_⟩
            obtain rfl := sortS_uniq hp hs
            exact RunE.made q s hn (VD.newL s hn (VDs.strs _))
          | none =>
            simp only [e1] at q
            cases e2 : intsD xs with
            | none => simp only [e2] at q; exact q.elim
            | some zs =>
              simp only [e2] at q
              have ey := ints_ok h4 e2
              subst ey
              have hlz : zs.length < 64 := by have := h4.length; rw [List.length_map] at this; omega
              refine .inr ⟨a, zs, rfl, h3, hlz, fun ws p hp hs hn => ?_⟩
              obtain rfl := sortI_uniq hp hs
              exact RunE.made q s hn (VD.newL s hn (VDs.intsW _))
      · exact q.elim
    · exact q.elim
  · exact q.elim
theorem call_sorted {X : Cx} (W : Wf X G) : CallR X (.builtin "sorted") (fun xs H Q => rSortedS X.K xs H Q ∨ rSorted X.K xs H Q) := cr_sortedS.or cr_sorted
end

/-! ### a comprehension's block -/
def blkB (N : List Str) (sc scope : Scope) (own : List (Str × Nat)) : Bool :=
  decide (scope.kind = .function) && scope.names.all (fun y => decide (scope.names.lookup y.1 = some y.2)) && own.all (fun p => decide (N[p.2]? = some p.1)) &&
  scope.names.all (fun y => decide (y.2 ≠ .free) || decide (sc.names.lookup y.1 = some .cell) || decide (sc.names.lookup y.1 = some .free)) &&
  scope.names.all (fun y => !(decide (y.2 = .local) || decide (y.2 = .cell)) || decide (y.1 ∈ own.map (·.1)) || decide (y.1 ∉ N))
theorem blk_ok {N : List Str} {sc scope : Scope} {own : List (Str × Nat)} (h : blkB N sc scope own = true) : BlkOk N sc scope own := by
  unfold blkB at h
  simp only [Bool.and_eq_true, List.all_eq_true, decide_eq_true_eq, Bool.or_eq_true, Bool.not_eq_true', Bool.or_eq_false_iff, decide_eq_false_iff_not] at h
  obtain ⟨⟨⟨⟨h1, h2⟩, h3⟩, h4⟩, h5⟩ := h
  refine ⟨h1, h2, h3, fun y hy e => ?_, fun y hy e => ?_⟩
  · rcases h4 y hy with (q | q) | q
    · exact absurd e q
    · exact .inl q
    · exact .inr q
  · rcases h5 y hy with (q | q) | q
    · rcases e with e | e
      · exact absurd e q.1
      · exact absurd e q.2
    · exact .inl q
    · exact .inr q
end Pd
end
section
/-! Pd, errors, part r: an own error is made and raised. -/
namespace Pd
open PySem PySem.Spec PyProof.Rows L2
open PySem.W (Frag)

section
variable {P : Program} {w : World} {K : Frag} {mg : Str → Option Value} {base : Heap}
/-- what the __init__ of an error with one attribute does -/
def spI1 (K : Frag) (f : Str) : Sp := fun vs H Q _ => ∃ (a C : Addr) (y : V), vs = [.ref a, y] ∧ OexC K C ∧ PySem.W.findIn K (.ref C) f = some none ∧ H a = some (exo a C none) ∧
  ∀ dx, H dx = none → dx ≠ a → Q .non (upd (upd H dx (exd dx [(f, y)])) a (exo a C (some dx)))
theorem init1 {CX : CXT} {qual self p f : Str} {params : Arguments} {body : List Stmt} {scope : Scope} {fI : Addr} {fd : FuncData} {p1 p2 p3 p4 : Pos} (hF : FunD K "__init__" qual params body scope [] [] fI fd) (sc : FnScope [self, p] [self, p] scope)
    (hb : body = [.Assign [.Attribute (.Name self p1) f p2] (.Name p p3) p4]) (v0 : Vis scope self) (v1 : Vis scope p) (d0 : (self == ("__debug__" : Str)) = false) (c0 : (self == ("__classdict__" : Str)) = false) (d1 : (p == ("__debug__" : Str)) = false) (c1 : (p == ("__classdict__" : Str)) = false) :
    FnOk P w K mg base CX 1 fI fd [self, p] (spI1 K f) := by
  subst hb
  refine FunD.ok hF sc (fun vs H Q E h => by obtain ⟨_, _, _, rfl, _⟩ := h; rfl) fun cdv A outer s H vs Q E hr h => ?_
  obtain ⟨a, C, y, rfl, T, hno, ha, q⟩ := h
  refine ⟨_, pss_one (ps_ost (f := f) (pe_var (i := 0) rfl v0 d0 c0) (pe_var (i := 1) rfl v1 d1 c1)), ?_⟩
  refine ⟨y, rfl, .ref a, rfl, a, C, rfl, T, hno, .inl ⟨ha, fun dx h1 h2 => ?_⟩⟩
  exact q dx h1 h2
end

section
variable {μ : Mu} {X : Cx} {G : Ga} {E : XK} {e : Expr} {x f self par : Str} {p pos pos' : Pos} {ga : EvA} {C fI : Addr} {c i : Nat} {fd : FuncData}
def sRaise1 (c i : Nat) (ga : EvA) : EvS := fun ρ S => (ga ρ S).out fun q => match q.1 with
  | [d] => .exc ⟨c, [(i, d)]⟩ q.2
  | _ => .bad
/-- C(e) by C's own __init__, C over ValueError; the context of what is made is None -/
theorem pmk_own1 {k : Nat} {ps : List Str} {sp : Sp} {ta : TA} (T : OexC X.K C) (wI : PySem.W.findIn X.K (.ref C) "__init__" = some (some (.ref fI))) (tI : PySem.W.typeIn X.K (.ref fI) = some (.type "function"))
    (Fi : FnOk X.prog X.w X.K X.mg X.base (L2N.CX X.prog X.w) k fI fd ps sp) (rm : Room (k + 1) X.A) (bi : Binds X.K fd ps []) (hm : X.mg x = some (.ref C)) (pa : PA X [e] ta)
    (gx : Gl X x := by rfl) (nd : (x == ("__debug__" : Str)) = false := by decide) (st : starEach [e] X.env = (false, eval e X.env) :: starEach [] X.env := by rfl) (pl : (backTo pos (starEach [] X.env)).any (·.1) = false := by rfl) :
    L2N.PMk X (.Call (.Name x p) [e] [] pos) (tMkO C sp [] ta) := by
  intro pins s σ H Q I want
  obtain ⟨nm, qn, N, bs, bm, sn, sub, ab, col, dd, j0, j1, j2, j3, j5, atC, refs⟩ := T.cls
  refine wpAny_Call_Name_kw (ld_glob I gx hm (PySem.W.callWith_K (h₀ := X.base) I.ok.mod.kin T.kC (thn (pa.run pos pins s σ H _ I want) fun us sA ⟨vs, HA, IA, rv, few, go⟩ => ⟨IA.kIn, ?_⟩) st pl) nd)
  show wpAny _ _ (call (.ref C) us) _ _ _
  obtain ⟨hp, gs, dr, tk, os⟩ := sA
  let top := hp.objs.size
  let hpN := (hp.push (PySem.W.kdv_tup us)).push (PySem.HandSPX.excO C top)
  have above : hp.objs.size ≤ top + 1 := Nat.le_succ _
  have goN := go (top + 1) (IA.hok.fresh above)
  rw [List.append_nil] at goN
  have old : ∀ b o, hp.get? b = some o → hpN.get? b = some o := fun b o z => Heap.get?_push_of_some _ (Heap.get?_push_of_some _ z)
  have new : hpN.get? (top + 1) = some (PySem.HandSPX.excO C top) := by
    show ((hp.push (PySem.W.kdv_tup us)).push (PySem.HandSPX.excO C hp.objs.size)).get? (hp.objs.size + 1) = _
    heap_get
  have JN : Inv X pins σ (upd HA (top + 1) (exo (top + 1) C none)) ⟨hpN, gs, dr, tk, os⟩ := IA.laid (t' := tk) (a := top + 1) (o := exo (top + 1) C none) (h' := hpN) old above (exo_ok new)
  have rN : Vals (V.ref (top + 1) :: vs) (Value.ref (top + 1) :: us) := .cons rfl rv
  have lenN : (Value.ref (top + 1) :: us ++ []).length = ps.length := by
    have z := rN.length
    rw [Fi.len _ _ _ _ goN] at z
    rw [List.append_nil, z]
  have fewU : us.length ≤ sizeLine := by rw [← Paired.length rv, sizeLine_eq]; omega
  have bN := bi ⟨hpN, gs, dr, tk, os⟩ (Value.ref (top + 1) :: us) JN.kIn lenN
  rw [List.append_nil] at bN
  refine wpAny_call (PySem.HandSPX.call_own F.excBase_ValueError (fun Y => PySem.HandSPX.refsVE_contains Y bm refs) (IA.kIn _ _ atC) (PySem.W.looks_findIn IA.kIn wI) (fun self => PySem.W.bind_fn IA.kIn self tI) fewU
    (codeAny_mono (Fi.run _ X.stack _ _ ⟨Value.ref (top + 1) :: us, []⟩ (Value.ref (top + 1) :: us) _ _ E0 (rm.make C us []) (JN.env0.make C us []) bN rN goN) fun res sB back => ?_))
  cases res with
  | error er =>
    obtain ⟨_, _, _, _, _, _, _, _, _, _, _, _, z⟩ := back
    exact z.elim
  | ok fl =>
    cases fl with
    | next => exact back.elim
    | brk => exact back.elim
    | cont => exact back.elim
    | ret u =>
      obtain ⟨v, HB, osB, bareB, unB, okB, rvB, none_, d, fs, isE, isD, noD, fin⟩ := back
      subst none_
      obtain ⟨hB, gB, dB, tB, oB⟩ := sB
      obtain ⟨t0, Gr, J, keepG, noE, atE, offE⟩ := mk_end0 (d2 := dB) (t2 := tB) IA above old unB okB osB bareB isE isD noD
      refine ⟨rvB, top + 1, _, _, ⟨Gr, gB, dB, tB, oB⟩, _, .ref C, some d, rfl, J, keepG, noE, atE, ⟨rfl, rfl, fun ws hw => ?_⟩, rfl, rfl, offE, rfl, bareB, raises_own T.exC T.tyC, fin⟩
      cases hw
      rfl
theorem s_raise1 (hc : X.calm = true) (B : Bd μ X E) (T : OexC X.K C) (hC : G.xc[c]? = some C) (iC : PySem.W.findIn X.K (.ref C) "__init__" = some (some (.ref fI))) (tI : PySem.W.typeIn X.K (.ref fI) = some (.type "function"))
    (F1 : FnOk X.prog X.w X.K X.mg X.base (L2N.CX X.prog X.w) 1 fI fd [self, par] (spI1 X.K f)) (hr : Room 2 X.A) (hb : Binds X.K fd [self, par] []) (hm : X.mg x = some (.ref C)) (hn : G.nm[i]? = some f) (hno : PySem.W.findIn X.K (.ref C) f = some none) (ha : PA X [e] (tA G E ga))
    (hg : Gl X x := by rfl) (hdb : (x == ("__debug__" : Str)) = false := by decide) (he : starEach [e] X.env = (false, eval e X.env) :: starEach [] X.env := by rfl) (hpl : (backTo pos (starEach [] X.env)).any (·.1) = false := by rfl) :
    PS X (.Raise (some (.Call (.Name x p) [e] [] pos)) none pos') (tS G E (sRaise1 c i ga)) :=
  PS.weak (L2N.ps_raise hc B.tk (pmk_own1 T iC tI F1 hr hb hm ha hg hdb he hpl)) fun Dn σ H ⟨F, ρ, m, S, hE, hS, h⟩ => tA_out hE hS h fun ds S1 vs H1 m1 k1 e1 s1 r1 h1 => by
    cases r1 with
    | nil => exact h1.elim
    | cons r1 r2 =>
      cases r2 with
      | cons _ _ => exact h1.elim
      | nil =>
        rename_i d v
        refine ⟨by simp, fun a ha' => ⟨a, C, v, rfl, T, hno, upd_same, fun dx hdx ne => ⟨rfl, dx, [(f, v)], ?_, ?_, ?_, ?_⟩⟩⟩
        · exact upd_same
        · rw [upd_ne ne, upd_same]
        · rw [upd_ne ne] at hdx; exact hdx
        · have hd1 : H1 dx = none := by rw [upd_ne ne] at hdx; exact hdx
          have eH : upd (del (upd (upd (upd H1 a (exo a C none)) dx (exd dx [(f, v)])) a (exo a C (some dx))) a) dx (.xd [(f, v)]) = upd H1 dx (.xd [(f, v)]) := by
            funext b
            by_cases q : b = dx
            · subst q; rw [upd_same, upd_same]
            · rw [upd_ne q, upd_ne q]
              by_cases q2 : b = a
              · subst q2; rw [del_same, ha']
              · rw [del_ne q2, upd_ne q2, upd_ne q, upd_ne q2]
          rw [eH]
          refine h1 (.ref C) (some dx) _ m1 (Kp.new s1 hd1) (s1.new hd1) ⟨C, [(f, v)], hC, rfl, .inr ⟨dx, rfl, upd_same, s1.freshF hd1⟩, .cons hn ?_ .nil⟩
          exact r1.mono (Kp.new s1 hd1)
end
end Pd
end
section
/-! Pd, errors, part s: what the head says of an own error's class. -/
namespace Pd
open PySem PySem.Spec PyProof.Rows L2
open PySem.W (Frag)

theorem Rm.room {k : Nat} {X : Cx} (r : Rm none k X) : Room k X.A := ⟨r.calm rfl, r.rm.dp, r.rm.un⟩
theorem tail_refs : ∀ {l : List Value}, PySem.W.excTail PySem.HandSPX.veTail l = true → PySem.HandSPX.refsVE l = true := by
  intro l
  induction l with
  | nil => exact fun h => h
  | cons a r ih =>
    intro h
    rcases PySem.W.excTail_cases _ h with ⟨c, r', q, h'⟩ | q
    · obtain ⟨rfl, rfl⟩ := List.cons.inj q
      exact ih h'
    · rw [q]
      decide +kernel
/-- the class of an error over ValueError -/
def bOex (C : Frag → Addr) (K : Frag) : Bool :=
  PySem.W.excInitIn K (C K) PySem.HandSPX.veTail "ValueError.__new__" && (PySem.W.hasDictIn K (C K) && (He.eqO (PySem.W.findIn K (.ref (C K)) "__setattr__") (some (some (.builtin "object.__setattr__"))) &&
    (decide (PySem.W.subIn K (.ref (C K)) (.type "BaseException") = some true) && (decide (PySem.W.typeIn K (.ref (C K)) = some (.type "type")) && PySem.W.keepIn K (.ref (C K))))))
theorem oex_ok {C : Frag → Addr} {K : Frag} (h : bOex C K = true) : OexC K (C K) := by
  unfold bOex at h
  simp only [Bool.and_eq_true, decide_eq_true_eq] at h
  obtain ⟨q, hd, h3, h4, h5, h6⟩ := h
  refine ⟨?_, He.eqO_ok h3, h4, h5, h6⟩
  unfold PySem.W.excInitIn at q
  unfold PySem.W.hasDictIn PySem.W.clsIn at hd
  split at q
  · rename_i dx cx slx lk
    rw [lk] at hd
    split at q
    · rename_i C1 tl a0 a1 a2 a3 nn a5 e1 e2
      simp only [Bool.and_eq_true, beq_iff_eq, Bool.not_eq_true'] at q
      obtain ⟨⟨⟨z1, z2⟩, z3⟩, z4⟩ := q
      subst z1 z2
      obtain ⟨l⟩ := slx
      simp only at e2
      subst e2
      cases cx
      simp only at e1 z3 hd
      subst e1 z3
      simp at hd
      subst hd
      exact ⟨_, _, _, _, tl, _, _, _, _, _, a0, a1, a2, a3, a5, lk, tail_refs z4⟩
    · cases q
  · cases q
theorem fn_typ {K : Frag} {v : Value} (h : PySem.W.isFn K v = true) : PySem.W.typeIn K v = some (.type "function") := beq_iff_eq.mp h
theorem Rm.blk {k : Nat} {X : Cx} (r : Rm none k X) {s : Shared} {H : Hp} {scope : Scope} {env : Env} {fp : List Addr} : Rm none k (X.blk s H scope env fp) := ⟨r.rm, r.calm, fun p e => by cases e⟩
end Pd
end
section
/-! Pd, errors, part t: try .. except (C1, C2, C3) as n, all that comes is of one of the three. -/
namespace Pd
open PySem PySem.Spec PyProof.Rows L2
open PySem.W (Frag)

theorem fly_keep {B : Heap} {l : List Env} {e : Addr} {Z : Obj → Prop} {g h : Heap} (R : PySem.HandSPX.FlyingZ B l e Z g) (k : ∀ b o, g.get? b = some o → h.get? b = some o) : PySem.HandSPX.FlyingZ B l e Z h := by
  obtain ⟨a1, a2, a3, o, vs, T, oT, ts, i1, i2, i3, i4, i5, i6, i7, i8, i9⟩ := R
  exact ⟨fun b o q => k b o (a1 b o q), a2, Heap.FunFrames.of_keeps (fun b o q _ => ⟨o, k b o q, rfl⟩) a3, o, vs, T, oT, ts, k _ _ i1, i2, i3, i4, i5, i6, k _ _ i7, i8, i9⟩
/-- the ends, n's slot empty behind the suite -/
def endsN (i : Nat) (D : Ends) : Ends := { nx := fun σ' H' => D.nx (σ'.set i none) H', rt := D.rt, bk := fun σ' H' => D.bk (σ'.set i none) H', ct := fun σ' H' => D.ct (σ'.set i none) H' }
def wThree (K : Frag) (cs : List Value) (i : Nat) (ts : Addr → Value → Option Addr → TS) (D : Ends) : WX := fun cls d σ H =>
  PySem.W.exmAny K cls cs = some true ∧ ∀ a, H a = none → ts a cls d (endsN i D) (σ.set i (some (.ref a))) H
section
variable {X : Cx} {x1 x2 x3 n : Str} {C1 C2 C3 : Addr} {i kk : Nat} {body suite : List Stmt} {b₀ : Stmt} {p1 p2 p3 tp pos pos' : Pos} {tb : WX → TS} {ts : Addr → Value → Option Addr → TS}
theorem ps_try3 (hst : X.stack = X.env :: X.outer) (hfm : X.env.frame = some X.env.locals) (hN : X.N.Nodup) (hi : X.N[i]? = some n) (hln : X.env.kindOf n = some .local)
    (g1 : Gl X x1) (m1 : X.mg x1 = some (.ref C1)) (d1 : (x1 == ("__debug__" : Str)) = false) (g2 : Gl X x2) (m2 : X.mg x2 = some (.ref C2)) (d2 : (x2 == ("__debug__" : Str)) = false) (g3 : Gl X x3) (m3 : X.mg x3 = some (.ref C3)) (d3 : (x3 == ("__debug__" : Str)) = false)
    (hbd : ∀ (W : WX) (pn : List (Addr × Obj)) (xe : Value → Shared → Prop), L2N.Takes (X.tr pn xe) W → PassesOwn (model X.prog X.w) X.A X.env xe → PSs (X.tr pn xe) body (tb W))
    (hsu : ∀ (a : Addr) (oe : Obj) (cls : Value) (d : Option Addr) (pn : List (Addr × Obj)), L2N.Zn cls d oe → (∃ vs, oe.data = .fields vs) → PSs (X.suite a ((a, oe) :: pn)) (b₀ :: suite) (ts a cls d)) :
    PS X (.Try body [.ExceptHandler (some (.Tuple [.Name x1 p1, .Name x2 p2, .Name x3 p3] kk tp)) (some n) (b₀ :: suite) pos'] [] [] pos) (fun D σ H => tb (wThree X.K [.ref C1, .ref C2, .ref C3] i ts D) D σ H) := by
  refine ⟨fun pins s σ H D I want => wpAny_Try_except (wpAny_mono ((hbd (wThree X.K [.ref C1, .ref C2, .ref C3] i ts D) (X.pn ++ pins) _ (fun u s' air => ?_) PassesOwn.looking).run [] s σ H D (I.toTry _) want) (fun fl s1 got => ?_) fun _ _ z => z)⟩
  · obtain ⟨a, B, sI, qs, σ1, H1, cls, d, rfl, IT, nb, up, sky, na, os, bare, hx, go⟩ := air
    have J : Inv X pins σ1 H1 sI := IT.ofTry I.ok
    have frs_ : X.A.frames = some (X.env :: X.outer) := by rw [I.ok.frames, hst]
    refine L2N.Sky.land L2N.Zn.steady frs_ hfm (show Sky B (X.env :: X.outer) a (L2N.Zn cls d) X.env.locals s'.heap by rw [← hst]; exact sky) fun hA flA upA => ?_
    have JA : Inv X pins σ1 H1 { s' with heap := hA } := J.landed nb flA.1 (up.trans upA) os bare
    obtain ⟨oA, vA, eA, zA, dA⟩ := flA.there
    have far : a ∉ frs (X.env :: X.outer) := fun hm => by
      obtain ⟨_, o2, e2, nf⟩ := flA.2.2.1.mem hm
      rw [eA] at e2
      cases e2
      exact nf _ dA
    have farL : a ≠ X.env.locals := fun z => far (List.mem_filterMap.mpr ⟨X.env, List.mem_cons_self, by rw [hfm, z]⟩)
    have farF : a ∉ X.fs := fun hm => by
      obtain ⟨e2, he2, q2⟩ := List.mem_filterMap.mp hm
      exact far (List.mem_filterMap.mpr ⟨e2, List.mem_cons_of_mem _ he2, q2⟩)
    have SA := JA.suite eA dA na farL farF
    refine wpAny_handleBy_cons (codeAny_handlers_test ?_) (by intro q; cases q)
    refine wpAny_Tuple (wpAny_items_cons (ld_glob (X := X.suite a ((a, oA) :: (X.pn ++ pins))) SA g1 m1 ?_ d1))
    refine wpAny_items_cons (ld_glob (X := X.suite a ((a, oA) :: (X.pn ++ pins))) SA g2 m2 ?_ d2)
    refine wpAny_items_cons (ld_glob (X := X.suite a ((a, oA) :: (X.pn ++ pins))) SA g3 m3 ?_ d3)
    refine wpAny_items_nil ⟨by size_fits, ?_⟩
    have old : ∀ b o, hA.get? b = some o → (hA.push (PySem.W.excTup [.ref C1, .ref C2, .ref C3])).get? b = some o := fun _ _ z => Heap.get?_push_of_some _ z
    have LT : PySem.W.Looks (model X.prog X.w) (hA.push (PySem.W.excTup [.ref C1, .ref C2, .ref C3])) (typeOf (.ref a)) cls := fun A Q E s k q => wpAny_typeOf_ref (k _ _ (old _ _ eA)) (by rw [zA.1]; exact q)
    refine (PySem.W.exm_tup3 (JA.kIn.keeps old) LT (Heap.get?_push_size hA rfl) hx).here ?_
    refine codeAny_handlers_suite_as (PySem.HandSPX.lands_againZ (fly_keep flA old) fun hB flB upB => ?_)
    have JB : Inv X pins σ1 H1 { s' with heap := hB } := J.landed nb flB.1 ((up.trans upA).trans ((Heap.UpToSlots.of_keeps old).trans upB)) os bare
    obtain ⟨oB, vB, eB, zB, dB⟩ := flB.there
    refine store_ok (X := X.suite a ((a, oB) :: (X.pn ++ pins))) (v := .ref a) (JB.suite eB dB na farL farF) hN hi (.inl hln) rfl (fun sC JC => ?_) (.inr hln)
    refine wpAny_mono ((hsu a oB cls d (X.pn ++ pins) zB ⟨_, dB⟩).run [] sC _ H1 _ JC (go a na)) (fun fl sD got => ?_) fun _ _ z => z.elim
    cases fl with
    | ret u =>
      obtain ⟨v, σD, HD, JD, rv, q⟩ := got
      exact gone_ok (JD.unsuite I.ok) hN hi hln fun sE JE => ⟨v, _, HD, JE, rv, q⟩
    | next =>
      obtain ⟨σD, HD, JD, q⟩ := got
      exact gone_ok (JD.unsuite I.ok) hN hi hln fun sE JE => ⟨_, HD, JE, q⟩
    | brk =>
      obtain ⟨σD, HD, JD, q⟩ := got
      exact gone_ok (JD.unsuite I.ok) hN hi hln fun sE JE => ⟨_, HD, JE, q⟩
    | cont =>
      obtain ⟨σD, HD, JD, q⟩ := got
      exact gone_ok (JD.unsuite I.ok) hN hi hln fun sE JE => ⟨_, HD, JE, q⟩
  · cases fl with
    | ret u =>
      obtain ⟨v, σ1, H1, J, rv, q⟩ := got
      exact ⟨v, σ1, H1, J.ofTry I.ok, rv, q⟩
    | next =>
      obtain ⟨σ1, H1, J, q⟩ := got
      exact wpAny_execs_nil ⟨σ1, H1, J.ofTry I.ok, q⟩
    | brk =>
      obtain ⟨σ1, H1, J, q⟩ := got
      exact ⟨σ1, H1, J.ofTry I.ok, q⟩
    | cont =>
      obtain ⟨σ1, H1, J, q⟩ := got
      exact ⟨σ1, H1, J.ofTry I.ok, q⟩
end
end Pd
end
section
/-! Pd, errors, part u: the error that is being handled, read. -/
namespace Pd
open PySem PySem.Spec PyProof.Rows L2
open PySem.W (Frag)

section
open PySem.W PySem.Calls
variable {prog : Program} {w : World} {A : Around} {E : Value → Shared → Prop} {s : Shared} {K : Frag} {x D : Addr} {ox : Obj} {od : Option Obj}
theorem fo_cls (c : ExcC K D) : findObj K D od "__class__" = some (.bind (.builtin "getset_descriptor.__get__") (.builtin "object.__class__")) := by
  obtain ⟨cd, e, _⟩ := any_some c.hd
  unfold findObj
  rw [e, Option.bind_some, c.ha, Option.bind_some]
  simp [c.hn, c.ht]
/-- e.__class__ -/
theorem getE {Q : Option Value → Shared → Prop} (c : ExcC K D) (KX : K.In s.heap) (J : InstAt s.heap x ox D od) (want : Q (some (.ref D)) { s with toks := s.toks + 1 }) : wpAny (model prog w) A (getAttr? (.ref x) "__class__") Q E s := by
  obtain ⟨hp, gn, dr, tk, os⟩ := s
  have kT := J.type (M := model prog w)
  have kF := looks_find (M := model prog w) KX J (fo_cls (od := od) c)
  have bs : Looks (model prog w) hp (isInstance (.ref x) (.type "BaseException")) true := kT.andThen (looks_subIn KX c.hs)
  have z0 : (Value.builtin "BaseException.__getattribute__" == Value.builtin "object.__getattribute__") = false := by decide +kernel
  have z1 : ¬ (onTheHeap (Value.ref D) && Value.builtin "BaseException.__getattribute__" == Value.builtin "object.__getattribute__") = true := by
    rw [z0]
    simp
  have z2 : ¬ (false && onTheHeap (Value.builtin "BaseException.__getattribute__")) = true := by simp
  have z3 : onTheHeap (Value.ref D) = true := rfl
  have own := looks_findIn (M := model prog w) KX c.hg
  have noA := looks_findIn (M := model prog w) KX c.hk
  unfold getAttr? getAttrBy? getAttrBy
  refine wpAny_bind (wpAny_mkText (wpAny_bind (wpAny_attempt (wpAny_holding (wpAny_bind (kT.at (wpAny_bind (own.at ?_))))))))
  show wpAny _ _ (ite ((onTheHeap (Value.ref D) && Value.builtin "BaseException.__getattribute__" == Value.builtin "object.__getattribute__") = true) _ _) _ _ _
  rw [if_neg z1]
  unfold getAttrByItsOwn hookBefore
  refine wpAny_bind ?_
  rw [if_pos z3]
  refine noA.at (wpAny_bind (wpAny_attempt (wpAny_holding ?_)))
  unfold callGetattribute
  rw [if_neg z2]
  unfold boundAndCalled
  rw [PySem.F.excAttr_ValueError.ga.bind (.ref x)]
  refine wpAny_bind (wpAny_pure ?_)
  show wpAny _ _ (call (.builtin "BaseException.__getattribute__") ((.ref x) :: [.str "__class__" tk])) _ _ _
  refine wpAny_call (codeAny_call_builtin F.excAttr_ValueError.ga.plain F.entry_bexc_ga (@check_slot (model prog w) _ _ ⟨hp, gn, dr, tk + 1, os⟩ "BaseException.__getattribute__" "BaseException" "__getattribute__" (.ref x) [.str "__class__" tk] [] _ (by decide +kernel) (by decide +kernel) bs (F.args_bexc_ga (.ref x) (.str "__class__" tk)) ?_))
  unfold Builtin.«object.__getattribute__»
  refine wpAny_bind (wpAny_of_eq (a := ((Value.ref x : Value), [Value.str "__class__" tk])) (by first | rfl | (simp only [slotArgs]; rfl)) (wpAny_bind (wpAny_pure (wpAny_bind (kT.at (wpAny_bind (kF.at ?_)))))))
  show wpAny _ _ (holding ([Value.builtin "object.__class__"]) (call (.builtin "getset_descriptor.__get__") (.builtin "object.__class__" :: [.ref x, .ref D])) >>= ret) _ _ _
  refine wpAny_bind (wpAny_holding (wpAny_call (class_get (s := ⟨hp, gn, dr, tk + 1, os⟩) KX J c.hm (wpAny_pure ?_))))
  show wpAny _ _ (handedOut (.ref D)) _ _ _
  rw [handedOut_of (v := .ref D) rfl]
  first
    | exact wpAny_pure (wpAny_pure want)
    | exact wpAny_pure want
    | exact wpAny_pure (wpAny_bind (wpAny_pure (wpAny_pure want)))
theorem kitxE (c : ExcC K D) : KitX K (.ref x) (.ref D) (fun h => ∃ ox od, InstAt h x ox D od) := by
  obtain ⟨cd, hc, _⟩ := any_some c.hd
  have lk : ∃ k0 d0 s0, K.lookup D = some ⟨k0, d0, .cls cd, s0⟩ := by
    unfold clsIn at hc
    split at hc
    · rename_i k0 d0 c0 s0 e
      cases hc
      exact ⟨_, _, _, e⟩
    · cases hc
  obtain ⟨k0, d0, s0, e⟩ := lk
  refine ⟨fun M h _ ⟨ox, od, J⟩ => J.type, fun M h KX _ A' Q' E' s' k q => ?_, fun h tp dd its n sl KX htp => ?_, fun KX ⟨ox, od, J⟩ want => getE c KX J want⟩
  · unfold isType loadHead
    exact wpAny_bind (wpAny_loadPart (k _ _ (KX _ _ e)) (wpAny_pure q))
  · refine Bool.eq_false_iff.mpr fun q => ?_
    obtain rfl : D = tp := Value.ref.inj (beq_iff_eq.mp q)
    have z := (KX _ _ e).symm.trans htp
    cases z
end

/-- the error that is handled around, told by the data's world -/
structure GP (μ : Mu) (K : Frag) (G : Ga) : Prop where
  at_ : ∀ a c dd, G.xa = some (a, c, dd) → ∃ oe C, μ = some (a, oe) ∧ G.xc[c]? = some C ∧ oe.cls = .ref C ∧ oe.dict = dd ∧ (∃ vs, oe.data = .fields vs) ∧ ExcC K C
section
variable {μ : Mu} {X : Cx} {G : Ga} {E : XK} {e : Expr} {f x : Str} {p pos : Pos} {fo : EvE} {k : Nat}
theorem GP.inst {pins : List (Addr × Obj)} {σ : L2.St} {H : Hp} {s : Shared} {a : Addr} {c : Nat} {dd : Option Addr} {gs : List (Str × V)} {L : List Addr} (g : GP μ X.K G) (r : Rm μ k X) (I : Inv X pins σ H s) (e : G.xa = some (a, c, dd)) (hd : XDict H L dd gs) :
    ∃ oe C od, G.xc[c]? = some C ∧ ExcC X.K C ∧ PySem.W.InstAt s.heap a oe C od ∧ ∀ f v, gs.lookup f = some v → PySem.W.findIn X.K (.ref C) f = some none → ∃ u, RelV v u ∧ PySem.W.findObj X.K C od f = some (.value u) := by
  obtain ⟨oe, C, e1, hC, ec, ed, ⟨vs, ef⟩, hx⟩ := g.at_ a c dd e
  obtain ⟨_, hp⟩ := r.hot _ e1
  obtain ⟨hget, _⟩ := I.pin (a, oe) (List.mem_append_left _ hp)
  have nc : PySem.W.notCls oe = true := by
    unfold PySem.W.notCls
    rw [ef]
  rcases hd with ⟨z, z2⟩ | ⟨dx, z, hxd, _⟩
  · refine ⟨oe, C, none, hC, hx, ⟨hget, ec, nc, by rw [ed, z]; trivial⟩, fun f v h => ?_⟩
    rw [z2] at h
    cases h
  · have ok : ObjOk X.prog X.w H s.heap dx (.xd gs) := I.hok dx _ hxd
    obtain ⟨mA, hns, hr⟩ := ok
    obtain ⟨od, ho, hl⟩ := lookIn_ns hns
    refine ⟨oe, C, some od, hC, hx, ⟨hget, ec, nc, by rw [ed, z]; exact ho⟩, fun f v h hno => ?_⟩
    obtain ⟨u, hu, ru⟩ := RelO.some_of (v := v) (o := mA f) (by rw [← h]; exact hr f)
    exact ⟨u, ru, PySem.W.findObj_own hx.hd hno rfl (by rw [hl, hu])⟩
/-- e.f of the error -/
def eXfl (i : Nat) (fo : EvE) : EvE := fun ρ S => (fo ρ S).bind fun p => match p.1 with
  | .exn _ fs => ofO p.2 (fs.lookup i)
  | _ => .bad
theorem x_xfl (g : GP μ X.K G) (r : Rm μ k X) (W : Wf X G) (hno : ∀ C ∈ G.xc, PySem.W.findIn X.K (.ref C) f = some none) (i : Nat) (ho : PE X e (tX G E fo)) (hn : G.nm[i]? = some f) (hb : attributeBase e f X.env (eval e X.env) = eval e X.env := by rfl) : PE X (.Attribute e f pos) (tX G E (eXfl i fo)) := by
  refine ⟨fun pins s σ H Q I h => ?_⟩
  refine attr_of hb (thn (ho.run pins s σ H (fun v H1 => ∃ a c dd gs L C y, v = .ref a ∧ G.xa = some (a, c, dd) ∧ XDict H1 L dd gs ∧ G.xc[c]? = some C ∧ gs.lookup f = some y ∧ Q y H1) I ?_) fun u s1 got => ?_)
  · obtain ⟨F, ρ, m, S, hE, hS, h⟩ := h
    refine tX_bind hE hS h fun d S1 v H1 m1 _ k1 e1 s1 r1 h1 => ?_
    cases r1 with
    | exn hx hd hf =>
      simp only at h1
      rename_i c fs a dd gs _
      cases q : fs.lookup i with
      | none => rw [q] at h1; exact h1.elim
      | some z =>
        rw [q] at h1
        obtain ⟨y, h3, h4⟩ := hf.lookup W.nd hn q
        obtain ⟨oe, C, _, hC, _⟩ := g.at_ a c dd hx
        exact ⟨a, c, dd, gs, _, C, y, rfl, hx, hd, hC, h3, RunE.here h1 s1 h4⟩
    | _ => exact h1.elim
  · obtain ⟨v, H1, I1, rv, a, c, dd, gs, L, C, y, rfl, hx, hd, hC, hl, q⟩ := got
    obtain rfl : u = Value.ref a := rv
    obtain ⟨oe, C', od, hC', hE, J, fin⟩ := g.inst r I1 hx hd
    obtain rfl : C' = C := Option.some.inj (hC'.symm.trans hC)
    obtain ⟨u, ru, hf⟩ := fin f y hl (hno C' (List.mem_of_getElem? hC'))
    exact PySem.HandSPX.exc_get I1.kIn J hE.hg hE.hk hE.hs hf (handed_of ru) ⟨y, H1, I1.tok _, ru, q⟩
/-- isinstance(e, T) of the error -/
def rIsH (G : Ga) (K : Frag) : List V → Hp → VK → Prop := fun xs H Q => ∃ (t : V) (u : Value) (b : Bool) (a : Addr) (c : Nat) (dd : Option Addr) (gs : List (Str × V)) (L : List Addr), xs = [.ref a, t] ∧ (∀ z, RelV t z → z = u) ∧ G.xa = some (a, c, dd) ∧ XDict H L dd gs ∧ (∀ C, G.xc[c]? = some C → PySem.W.kitOne K (.ref C) u = some b) ∧ Q (.bl b) H
theorem call_isH (g : GP μ X.K G) (r : Rm μ k X) : CallR X (.builtin "isinstance") (rIsH G X.K) := by
  intro pins s σ H xs us Q I rv h
  obtain ⟨t, u, b, a, c, dd, gs, L, rfl, hu, hx, hd, hk, q⟩ := h
  obtain ⟨oe, C, od, hC, hE, J, _⟩ := g.inst r I hx hd
  cases rv with
  | cons r1 r2 =>
    cases r2 with
    | cons r2 r3 =>
      cases r3
      cases r1
      obtain rfl := hu _ r2
      exact PySem.W.kia_one (kitxE hE) I.kIn ⟨oe, od, J⟩ (hk C hC) (fun z => nomatch z) fun tk => ⟨.bl b, H, I.kept (t' := tk) fun _ _ z => z, rfl, q⟩
def eIsx (tab : Nat → Option Bool) (fo : EvE) : EvE := fun ρ S => (fo ρ S).bind fun o => match o.1 with
  | .exn c _ => match tab c with
    | some b => .ok (.bl b, o.2)
    | none => .bad
  | _ => .bad
/-- the table of isinstance of errors -/
def IsX (K : Frag) (G : Ga) (u : Value) (tab : Nat → Option Bool) : Prop := ∀ c C b, tab c = some b → G.xc[c]? = some C → PySem.W.kitOne K (.ref C) u = some b
theorem x_isx {tab : Nat → Option Bool} {c : Expr} {cv : V} {u : Value} (g : GP μ X.K G) (r : Rm μ k X) (ho : PE X e (tX G E fo)) (hc : PE X c (tC cv)) (hu : ∀ z, RelV cv z → z = u) (hT : IsX X.K G u tab) (hm : X.mg "isinstance" = none) (hg : Gl X "isinstance" := by rfl) (hv : bootBuiltins "isinstance" = some (.builtin "isinstance") := by rfl)
    (he : starEach [e, c] X.env = (false, eval e X.env) :: starEach [c] X.env := by rfl) (he2 : starEach [c] X.env = (false, eval c X.env) :: starEach [] X.env := by rfl) (hpl : (backTo pos (starEach [c] X.env)).any (·.1) = false := by rfl) :
    PE X (.Call (.Name "isinstance" p) [e, c] [] pos) (tX G E (eIsx tab fo)) :=
  PE.weak (pe_callB (call_isH g r) hg hm hv (pa_cons ho (pa_cons hc pa_nil he2) he) (by decide) (by decide) he hpl) fun σ H Q ⟨F, ρ, m, S, hE, hS, h⟩ => tX_bind hE hS h fun d S1 v H1 m1 _ k1 e1 s1 r1 h1 => by
    cases r1 with
    | exn hx hd hf =>
      simp only at h1
      rename_i c fs a dd gs _
      cases q : tab c with
      | none => simp only [q] at h1; exact h1.elim
      | some b =>
        simp only [q] at h1
        exact ⟨cv, u, b, a, c, dd, gs, _, rfl, hu, hx, hd, fun C hC => hT c C b q hC, RunE.here h1 s1 (.bl _)⟩
    | _ => exact h1.elim
theorem x_isxO {tab : Nat → Option Bool} {D0 : Addr} {y : Str} {py' : Pos} (g : GP μ X.K G) (r : Rm μ k X) (ho : PE X e (tX G E fo)) (hT : IsX X.K G (.ref D0) tab) (hm : X.mg "isinstance" = none) (hmy : X.mg y = some (.ref D0)) (hgy : Gl X y := by rfl)
    (hg : Gl X "isinstance" := by rfl) (hd : (y == ("__debug__" : Str)) = false := by decide)
    (he : starEach [e, .Name y py'] X.env = (false, eval e X.env) :: starEach [.Name y py'] X.env := by rfl) (he2 : starEach [.Name y py'] X.env = (false, eval (.Name y py') X.env) :: starEach [] X.env := by rfl) (hpl : (backTo pos (starEach [.Name y py'] X.env)).any (·.1) = false := by rfl) :
    PE X (.Call (.Name "isinstance" p) [e, .Name y py'] [] pos) (tX G E (eIsx tab fo)) := x_isx g r ho (pe_glob hgy hmy (show RelV (.ref D0) (.ref D0) from rfl) hd) (fun _ z => z) hT hm hg rfl he he2 hpl
end
/-! ### facts of the written part -/
section
variable {K : Frag}
def bExc1 (K : Frag) (C : Addr) : Bool := decide (PySem.W.findIn K (.ref C) "__getattribute__" = some (some (.builtin "BaseException.__getattribute__"))) && (decide (PySem.W.findIn K (.ref C) "__getattr__" = some none) && (decide (PySem.W.subIn K (.ref C) (.type "BaseException") = some true) &&
  (PySem.W.hasDictIn K C && (decide (PySem.W.findIn K (.ref C) "__class__" = some (some (.builtin "object.__class__"))) && (decide (PySem.W.specialIn K (.builtin "object.__class__") "__get__" = some (some (.builtin "getset_descriptor.__get__"))) &&
  (decide (PySem.W.takesIn K (.builtin "object.__class__") = some true) && decide (PySem.W.mroIn K C (.type "object") = some true)))))))
/-- all classes of errors -/
def bExc (gg : Frag → Ga) (K : Frag) : Bool := (gg K).xc.all (bExc1 K)
theorem exc_all {gg : Frag → Ga} (h : bExc gg K = true) : ∀ C ∈ (gg K).xc, ExcC K C := fun C hC => by
  have z := List.all_eq_true.mp h C hC
  unfold bExc1 at z
  simp only [Bool.and_eq_true, decide_eq_true_eq] at z
  obtain ⟨h1, h2, h3, h4, h5, h6, h7, h8⟩ := z
  exact ⟨h1, h2, h3, h4, h5, h6, h7, h8⟩
def bXno (gg : Frag → Ga) (f : Str) (K : Frag) : Bool := (gg K).xc.all fun C => He.eqO (PySem.W.findIn K (.ref C) f) (some none)
theorem xno_all {gg : Frag → Ga} {f : Str} (h : bXno gg f K = true) : ∀ C ∈ (gg K).xc, PySem.W.findIn K (.ref C) f = some none := fun C hC => He.eqO_ok (List.all_eq_true.mp h C hC)
def bXis (gg : Frag → Ga) (u : Frag → Value) (tab : Nat → Option Bool) (K : Frag) : Bool := (List.range (gg K).xc.length).all fun c => match (gg K).xc[c]?, tab c with
  | some C, some b => decide (PySem.W.kitOne K (.ref C) (u K) = some b)
  | _, _ => true
theorem xis_ok {gg : Frag → Ga} {u : Frag → Value} {tab : Nat → Option Bool} (h : bXis gg u tab K = true) : IsX K (gg K) (u K) tab := fun c C b h1 h2 => by
  have z := List.all_eq_true.mp h c (List.mem_range.mpr (List.getElem?_eq_some_iff.mp h2).1)
  simp only [h1, h2] at z
  exact of_decide_eq_true z
def bXm (gg : Frag → Ga) (us : Frag → List Value) (K : Frag) : Bool := (gg K).xc.all fun C => decide (PySem.W.exmAny K (.ref C) (us K) = some true)
theorem xm_all {gg : Frag → Ga} {us : Frag → List Value} (h : bXm gg us K = true) : ∀ C ∈ (gg K).xc, PySem.W.exmAny K (.ref C) (us K) = some true := fun C hC => of_decide_eq_true (List.all_eq_true.mp h C hC)
end
end Pd
end
section
/-! Pd, errors, part v: list.count. -/
namespace Pd
open PySem PySem.Spec PyProof.Rows L2

section
variable {X : Cx} {G : Ga} {E : XK}
/-- l.count(y) -/
def rCountD (K : PySem.W.Frag) : V → List V → Hp → VK → Prop := fun x xs H Q => ∃ (p : Addr) (y : V) (b : PyData) (zs : List PyData), x = V.ref p ∧ xs = [y] ∧ Dp K H (V.ref p) (.list zs) ∧ Dp K H y b ∧
  SeqAt.shaped (.list zs) = true ∧ SeqAt.shaped b = true ∧ Q (.int (zs.countP fun z => PyData.eqv z b : Nat)) H
theorem mt_countD (hu : X.A.units + 65 < cLine) : MtR X "list.count" (rCountD X.K) := by
  intro pins s σ H x xs v us Q I rx rxs h
  obtain ⟨p, y, b, zs, rfl, rfl, dl, dy, s1, s2, q⟩ := h
  obtain ⟨uy, rfl, ry⟩ := rxs.one
  cases rx
  obtain ⟨bs, rb⟩ := Dp.reads I b y uy dy ry
  have lay : PyData.canLayAll0 zs = true := SeqAt.canLay_of_shaped s1
  have deep : X.A.units + 1 + min (PyData.depthAll zs) b.depth < cLine := room_in_shaped s2 hu
  cases dl with
  | lst hs ha =>
    obtain ⟨its, rv, ⟨⟨k0, d0, t0, l0⟩, n, ho, e1, _, e2⟩, _⟩ := I.list hs
    simp only at e1 e2
    subst e1 e2
    obtain ⟨as, ra⟩ := Dp.readsAll I zs _ its ha rv
    have same : its.map (SeqAt.readOf s.heap) = zs := SeqAt.readsAll_map zs its as lay ra
    refine call_meets PySem.F.slot_list_count ⟨_, ho, rfl⟩ PySem.F.entry_list_count (PySem.F.args_list_count_2 _ _)
      (SeqAt.list_countAt p its.toArray n d0 l0 uy fun u => PyData.eqv (SeqAt.readOf s.heap u) b) ⟨ho, ?_, ?_⟩
    · exact SeqAt.items_eqAt (vs := its.toArray) (show ReadsAll s.heap its.toArray.toList zs as from ra) rb lay (SeqAt.canLay_of_shaped s2) deep
    · have cnt : (its.toArray.toList.countP fun u => PyData.eqv (SeqAt.readOf s.heap u) b) = zs.countP fun z => PyData.eqv z b := by
        rw [← same, List.countP_map]
        rfl
      refine ⟨.int ((zs.countP fun z => PyData.eqv z b : Nat) : Int), H, I.tok _, ⟨s.toks, ?_⟩, q⟩
      exact congrArg (fun (k : Nat) => Value.int (k : Int) s.toks) cnt
def countDF : Fm := fun S d ds => match ds with
  | [y] => match py S 4 d, py S 4 y with
    | some (.list zs), some b => if (SeqAt.shaped (.list zs) && SeqAt.shaped b) = true then some (.int (zs.countP fun z => PyData.eqv z b : Nat), S) else none
    | _, _ => none
  | _ => none
theorem f_countD : MtS G E (rCountD G.K) countDF := by
  intro F S H m d v ds vs Q s rd rs q
  unfold countDF at q
  split at q
  · rename_i y
    split at q
    · rename_i zs b e1 e2
      split at q
      · rename_i hsh
        obtain ⟨h1, h2⟩ := Bool.and_eq_true_iff.mp hsh
        cases rs with
        | cons r1 r2 =>
          cases r2
          rename_i w
          have p1 := py_dp s 4 rd e1
          obtain ⟨a, rfl⟩ : ∃ a, v = .ref a := by cases p1; exact ⟨_, rfl⟩
          exact ⟨a, w, b, zs, rfl, rfl, p1, py_dp s 4 r1 e2, h1, h2, RunE.here q s (.int _)⟩
      · exact q.elim
    · exact q.elim
  · exact q.elim
end
end Pd
end
section
/-! Pd, errors, part w: data while an error is handled, and behind it; the making of a lambda. -/
namespace Pd
open PySem PySem.Spec PyProof.Rows L2
open PySem.W (Frag)

def Ga.at (G : Ga) (xa : Option (Addr × Nat × Option Addr)) : Ga := { G with xa := xa }
mutual
/-- no error in it -/
def nox : D → Bool
  | .tup a => noxs a
  | .lst a => noxs a
  | .scr a => noxs a
  | .ins _ a => noxf a
  | .dct a => noxk a
  | .ext _ a => noxs a
  | .exn _ _ => false
  | _ => true
termination_by structural d => d
def noxs : List D → Bool
  | [] => true
  | a :: r => nox a && noxs r
termination_by structural d => d
def noxf : List (Nat × D) → Bool
  | [] => true
  | (_, a) :: r => nox a && noxf r
termination_by structural d => d
def noxk : List (Key × D) → Bool
  | [] => true
  | (_, a) :: r => nox a && noxk r
termination_by structural d => d
end
section
variable {G : Ga} {F : List Addr} {H H' : Hp} {m L : List Addr} {S : Store} {xa : Option (Addr × Nat × Option Addr)}
mutual
theorem nox_of (g : G.xa = none) : ∀ {d : D} {v : V}, VD G H m L d v → nox d = true
  | _, _, .non => rfl
  | _, _, .bl _ => rfl
  | _, _, .int _ => rfl
  | _, _, .str _ => rfl
  | _, _, .tup _ r => by simp only [nox]; exact noxs_of g r
  | _, _, .lst _ _ r => by simp only [nox]; exact noxs_of g r
  | _, _, .scr _ r => by simp only [nox]; exact noxs_of g r
  | _, _, .ins _ _ _ r => by simp only [nox]; exact noxf_of g r
  | _, _, .ref _ => rfl
  | _, _, .dct _ _ r => by simp only [nox]; exact noxk_of g r
  | _, _, .ext _ _ _ r => by simp only [nox]; exact noxs_of g r
  | _, _, .cl _ => rfl
  | _, _, .exn h _ _ => by rw [g] at h; cases h
theorem noxs_of (g : G.xa = none) : ∀ {d : List D} {v : List V}, VDs G H m L d v → noxs d = true
  | _, _, .nil => rfl
  | _, _, .cons a r => by simp only [noxs, nox_of g a, noxs_of g r]; rfl
theorem noxf_of (g : G.xa = none) : ∀ {d : List (Nat × D)} {v : List (Str × V)}, FDs G H m L d v → noxf d = true
  | _, _, .nil => rfl
  | _, _, .cons _ a r => by simp only [noxf, nox_of g a, noxf_of g r]; rfl
theorem noxk_of (g : G.xa = none) : ∀ {d : List (Key × D)} {v : List (Key × V)}, KDs G H m L d v → noxk d = true
  | _, _, .nil => rfl
  | _, _, .cons a r => by simp only [noxk, nox_of g a, noxk_of g r]; rfl
end
mutual
theorem VD.up (g : G.xa = none) : ∀ {d : D} {v : V}, VD G H m L d v → VD (G.at xa) H m L d v
  | _, _, .non => .non
  | _, _, .bl b => .bl b
  | _, _, .int i => .int i
  | _, _, .str s => .str s
  | _, _, .tup h r => .tup h (VDs.up g r)
  | _, _, .lst h n r => .lst h n (VDs.up g r)
  | _, _, .scr h r => .scr h (VDs.up g r)
  | _, _, .ins c h n r => .ins c h n (FDs.up g r)
  | _, _, .ref h => .ref h
  | _, _, .dct h n r => .dct h n (KDs.up g r)
  | _, _, .ext c h n r => .ext c h n (VDs.up g r)
  | _, _, .cl h => .cl h
  | _, _, .exn h _ _ => by rw [g] at h; cases h
theorem VDs.up (g : G.xa = none) : ∀ {d : List D} {v : List V}, VDs G H m L d v → VDs (G.at xa) H m L d v
  | _, _, .nil => .nil
  | _, _, .cons a r => .cons (VD.up g a) (VDs.up g r)
theorem FDs.up (g : G.xa = none) : ∀ {d : List (Nat × D)} {v : List (Str × V)}, FDs G H m L d v → FDs (G.at xa) H m L d v
  | _, _, .nil => .nil
  | _, _, .cons n a r => .cons n (VD.up g a) (FDs.up g r)
theorem KDs.up (g : G.xa = none) : ∀ {d : List (Key × D)} {v : List (Key × V)}, KDs G H m L d v → KDs (G.at xa) H m L d v
  | _, _, .nil => .nil
  | _, _, .cons a r => .cons (VD.up g a) (KDs.up g r)
end
mutual
theorem VD.back : ∀ {d : D} {v : V}, nox d = true → VD (G.at xa) H m L d v → VD G H m L d v
  | _, _, _, .non => .non
  | _, _, _, .bl b => .bl b
  | _, _, _, .int i => .int i
  | _, _, _, .str s => .str s
  | _, _, n, .tup h r => .tup h (VDs.back (by simpa only [nox] using n) r)
  | _, _, n, .lst h k r => .lst h k (VDs.back (by simpa only [nox] using n) r)
  | _, _, n, .scr h r => .scr h (VDs.back (by simpa only [nox] using n) r)
  | _, _, n, .ins c h k r => .ins c h k (FDs.back (by simpa only [nox] using n) r)
  | _, _, _, .ref h => .ref h
  | _, _, n, .dct h k r => .dct h k (KDs.back (by simpa only [nox] using n) r)
  | _, _, n, .ext c h k r => .ext c h k (VDs.back (by simpa only [nox] using n) r)
  | _, _, _, .cl h => .cl h
  | _, _, n, .exn _ _ _ => by cases n
theorem VDs.back : ∀ {d : List D} {v : List V}, noxs d = true → VDs (G.at xa) H m L d v → VDs G H m L d v
  | _, _, _, .nil => .nil
  | _, _, n, .cons a r => by
    simp only [noxs, Bool.and_eq_true] at n
    exact .cons (VD.back n.1 a) (VDs.back n.2 r)
theorem FDs.back : ∀ {d : List (Nat × D)} {v : List (Str × V)}, noxf d = true → FDs (G.at xa) H m L d v → FDs G H m L d v
  | _, _, _, .nil => .nil
  | _, _, n, .cons q a r => by
    simp only [noxf, Bool.and_eq_true] at n
    exact .cons q (VD.back n.1 a) (FDs.back n.2 r)
theorem KDs.back : ∀ {d : List (Key × D)} {v : List (Key × V)}, noxk d = true → KDs (G.at xa) H m L d v → KDs G H m L d v
  | _, _, _, .nil => .nil
  | _, _, n, .cons a r => by
    simp only [noxk, Bool.and_eq_true] at n
    exact .cons (VD.back n.1 a) (KDs.back n.2 r)
end
theorem SR.up (g : G.xa = none) (s : SR G F H m S) : SR (G.at xa) F H m S := ⟨s.len, s.nd, s.trk, s.ftr, fun n c a h1 h2 => by
  have z := s.cell n c a h1 h2
  cases c with
  | dead => trivial
  | lst xs => exact let ⟨ys, e1, e2⟩ := z; ⟨ys, e1, e2.up g⟩
  | ins c fs => exact let ⟨C, dx, gs, e0, e1, e2⟩ := z; ⟨C, dx, gs, e0, e1, e2.up g⟩
  | dct ks => exact let ⟨gs, e1, e2⟩ := z; ⟨gs, e1, e2.up g⟩
  | tbl i => exact z⟩
/-- the store is as it was: no error in it -/
theorem SR.back {m0 : List Addr} (g : G.xa = none) (s0 : SR G F H m0 S) (s : SR (G.at xa) F H' m S) : SR G F H' m S := ⟨s.len, s.nd, s.trk, s.ftr, fun n c a h1 h2 => by
  have z := s.cell n c a h1 h2
  have hlt : n < m0.length := by
    rw [← s0.len]
    exact (List.getElem?_eq_some_iff.mp h1).1
  have z0 := s0.cell n c _ h1 (List.getElem?_eq_getElem hlt)
  cases c with
  | dead => trivial
  | lst xs => exact let ⟨ys, e1, e2⟩ := z; let ⟨_, _, e3⟩ := z0; ⟨ys, e1, e2.back (noxs_of g e3)⟩
  | ins c fs => exact let ⟨C, dx, gs, e0, e1, e2⟩ := z; let ⟨_, _, _, _, _, e3⟩ := z0; ⟨C, dx, gs, e0, e1, e2.back (noxf_of g e3)⟩
  | dct ks => exact let ⟨gs, e1, e2⟩ := z; let ⟨_, _, e3⟩ := z0; ⟨gs, e1, e2.back (noxk_of g e3)⟩
  | tbl i => exact z⟩
theorem EnvR.up {ρ : Slots} {σ : L2.St} (g : G.xa = none) (h : EnvR G H m L ρ σ) : EnvR (G.at xa) H m L ρ σ := ⟨h.1, fun i d e => let ⟨v, h1, h2⟩ := h.2 i d e; ⟨v, h1, h2.up g⟩⟩
end

/-! ### a lambda is made -/
section
variable {X : Cx} {pins : List (Addr × Obj)} {σ : L2.St} {H : Hp} {s : Shared} {G : Ga} {F m : List Addr} {S : Store}
theorem lam_make3 {c P : Addr} {n i : Nat} {params : Arguments} {body : Expr} {scope : Scope} {pos : Pos} {E : Value → Shared → Prop} {Q : Value → Shared → Prop} (I : Inv X pins σ H s) (TB : LamX.TabB X.base X.mg c P) (hcode : X.env.code = .ref c)
    (hS : SR G F H m S) (hn : S[n]? = some (.tbl i)) (hm : m[n]? = some P) (ht : G.tab[i]? = some (P, X.env.qual ++ "<lambda>")) (hdef : defaultsOf params X.env = ([], [])) (hfree : ∀ y ∈ scope.names, y.2 = .free → ∃ c, X.env.cells.lookup y.1 = some c)
    (want : ∀ (f c' : Addr) (pm ctv : Value) (H1 : Hp) (s' : Shared), Inv X pins σ H1 s' → Kp H m (lv m S) H1 m (lv m S) → SR G F H1 m S →
      s'.heap.get? f = some (PySem.W.kla_obj "<lambda>" (X.env.qual ++ "<lambda>") params body scope (cloFrom X.env.cells scope.names []) pm c' ctv) → H1 f = none → f ∉ frs X.stack → H1 c' = some (LamX.CodeO c' (X.env.qual ++ "<lambda>")) → Q (.ref f) s') :
    wpAny (model X.prog X.w) X.A (eval (.Lambda params body scope pos) X.env) Q E s := by
  obtain ⟨q, ps, e0, hP, tri, among⟩ := hS.cell n _ P hn hm
  obtain rfl : q = X.env.qual ++ "<lambda>" := by
    rw [ht] at e0
    cases e0
    rfl
  have objP : s.heap.get? P = some { cls := .none, data := .fields ps } := I.hok P _ hP
  have bP : s.heap.BuiltinsAt X.mg P := TB.bm.keeps I.bk
  have out : ∀ f, s.heap.objs.size ≤ f → f ∉ frs X.stack := fun f hf z => by
    rcases List.mem_cons.mp (I.stkSub _ z) with e | e
    · have z3 := I.lt
      rw [← e] at z3
      exact absurd (Nat.lt_of_lt_of_le z3 hf) (Nat.lt_irrefl _)
    · exact I.nofs hf e
  refine PySem.W.kla_eval hdef ?_
  cases hc : codeAmong pos ps.toList with
  | some cv =>
    obtain ⟨c', rfl, hco, _⟩ := among pos cv hc
    refine PySem.W.kla_makeFunctionHit (mg := X.mg) (c := c) (P := P) (ps := ps) (closure_ok hfree) I.ok.glob (I.mod.glob.keeps I.bk) hcode (TB.code.keeps I.bk) objP tri hc bP fun ctv h' tk hx hsz => ?_
    exact want h'.objs.size c' ((X.mg "__name__").getD .none) ctv H _ (I.kept (t' := tk) fun b o e => Heap.get?_push_of_some _ (hx b o e)) .refl hS (Heap.get?_push_size _ rfl) (I.hok.fresh hsz) (out _ hsz) hco
  | none =>
    refine PySem.W.kla_makeFunction (mg := X.mg) (c := c) (P := P) (ps := ps) (closure_ok hfree) I.ok.glob (I.mod.glob.keeps I.bk) hcode (TB.code.keeps I.bk) objP tri hc TB.gP bP fun c' ctv h' tk hx hge hlt hrec htb => ?_
    obtain ⟨_, oc, vs, t, e2, hoc, hd, hv⟩ := hrec
    cases e2
    have top : s.heap.objs.size ≤ h'.objs.size := Nat.le_trans hge (Nat.le_of_lt hlt)
    have new : H c' = none := I.hok.fresh hge
    have ne : P ≠ c' := ne_of_none hP new
    have J := LamX.inv_table (t' := tk) (more := #[rawInt pos.line, rawInt pos.col, .ref c']) (h' := h'.push (PySem.W.kla_obj "<lambda>" (X.env.qual ++ "<lambda>") params body scope (cloFrom X.env.cells scope.names []) ((X.mg "__name__").getD .none) c' ctv)) I hP
      (fun b o hb e => Heap.get?_push_of_some _ (hx b o hb e)) (Heap.get?_push_of_some _ htb) hge ⟨oc, vs, t, Heap.get?_push_of_some _ hoc, hd, hv⟩
    have swap : upd (upd H P (.tbl (ps ++ #[rawInt pos.line, rawInt pos.col, .ref c']))) c' (LamX.CodeO c' (X.env.qual ++ "<lambda>")) = upd (upd H c' (LamX.CodeO c' (X.env.qual ++ "<lambda>"))) P (.tbl (ps ++ #[rawInt pos.line, rawInt pos.col, .ref c'])) := by
      funext b
      by_cases h1 : b = c'
      · subst h1; rw [upd_same, upd_ne ne.symm, upd_same]
      · rw [upd_ne h1]
        by_cases h2 : b = P
        · subst h2; rw [upd_same, upd_same]
        · rw [upd_ne h2, upd_ne h2, upd_ne h1]
    rw [swap] at J
    have sset : S.set n (.tbl i) = S := by
      apply List.ext_getElem?
      intro j
      by_cases h : n = j
      · subst h; rw [List.getElem?_set_self (List.getElem?_eq_some_iff.mp hn).1, hn]
      · rw [List.getElem?_set_ne h]
    have k1 : Kp H m (lv m S) (upd H c' (LamX.CodeO c' (X.env.qual ++ "<lambda>"))) m (lv m S) := Kp.new hS new
    have s1 : SR G F (upd H c' (LamX.CodeO c' (X.env.qual ++ "<lambda>"))) m S := hS.new new
    have k2 := Kp.store (o := .tbl (ps ++ #[rawInt pos.line, rawInt pos.col, .ref c'])) s1 hn hm (d := .tbl i) rfl rfl
    have l3 : (ps ++ #[rawInt pos.line, rawInt pos.col, .ref c']).toList = ps.toList ++ [rawInt pos.line, rawInt pos.col, .ref c'] := by simp
    have s2 : SR G F (upd (upd H c' (LamX.CodeO c' (X.env.qual ++ "<lambda>"))) P (.tbl (ps ++ #[rawInt pos.line, rawInt pos.col, .ref c']))) m (S.set n (.tbl i)) := SR.store s1 hn hm rfl rfl (by
      rw [sset]
      refine ⟨_, _, ht, upd_same, by rw [l3]; exact PySem.TriplesOk_snoc _ _ _ _ tri, fun p' cv hcv => ?_⟩
      rw [l3] at hcv
      rcases LamX.among_app _ tri hcv with z | z
      · obtain ⟨c0, e1, e2, e3⟩ := among p' cv z
        have n0 : c0 ≠ P := fun z => by
          rw [z, hP] at e2
          exact LamX.codeO_ne ps (Option.some.inj e2).symm
        exact ⟨c0, e1, by rw [upd_ne n0, upd_ne (ne_of_none e2 new)]; exact e2, e3⟩
      · exact ⟨c', z, by rw [upd_ne ne.symm, upd_same], hS.freshF new⟩)
    rw [sset] at k2 s2
    refine want h'.objs.size c' ((X.mg "__name__").getD .none) ctv _ _ J (k1.trans k2) s2 (Heap.get?_push_size _ rfl) ?_ (out _ top) (by rw [upd_ne ne.symm, upd_same])
    have n1 : h'.objs.size ≠ c' := Nat.ne_of_gt hlt
    have n2 : h'.objs.size ≠ P := Nat.ne_of_gt (Nat.lt_of_lt_of_le (Heap.lt_size objP) top)
    rw [upd_ne n2, upd_ne n1]
    exact I.hok.fresh top
end
end Pd
end
section
/-! Pd, errors, part x: a lambda is called where it was handed to. -/
namespace Pd
open PySem PySem.Spec PyProof.Rows L2
open PySem.W (Frag)
/-- the context of a lambda's body -/
abbrev lamCxN (X : Cx) (A : Around) (outer : List Env) (s : Shared) (H : Hp) (E : XK) (scope : Scope) (f c' : Addr) : Cx :=
  (LamX.lamCx X A outer s H E scope f c').tr [] fun e s' => wpAny (model X.prog X.w) (A.deeper (LamX.lamEnv X scope s.heap.objs.size f c')) (leaving (LamX.lamEnv X scope s.heap.objs.size f c') e) (fun _ s'' => L2N.CX X.prog X.w outer H s E e s'') (fun e' s'' => L2N.CX X.prog X.w outer H s E e' s'') s'
/-- the context of the def that got it -/
abbrev gotCx (X : Cx) (Ng : List Str) (qg : Str) (sg : Scope) (g : Addr) (cdg : Value) (s : Shared) (H : Hp) : Cx := cxOf (L2N.CX X.prog X.w) X.prog X.w X.K X.mg X.base Ng qg sg g cdg X.A X.stack s H E0
theorem takes_len {X : Cx} {W : WX} (t : L2N.Takes X W) : L2N.Takes X fun cls d σ H => σ.length = X.N.length → W cls d σ H := fun u s' ⟨a, B, sI, pins, σ, H, cls, d, e, I, nb, up, sky, na, os, ag, w⟩ =>
  t u s' ⟨a, B, sI, pins, σ, H, cls, d, e, I, nb, up, sky, na, os, ag, w I.len⟩
section
variable {X : Cx} {pins : List (Addr × Obj)} {σ : L2.St} {H : Hp} {s : Shared} {G : Ga}
theorem pe_actN {Ng : List Str} {qg : Str} {sg : Scope} {g f c' : Addr} {cdg pm ctv : Value} {params : Arguments} {body : Expr} {scope : Scope} {k i : Nat} {a : Str} {pn : List (Addr × Obj)} {xe : Value → Shared → Prop} {W : WX} {E : XK} {tb : TE} {p1 p2 : Pos}
    (I : Inv X pins σ H s) (L : LamX.LamS X.env.scope scope) (hf : s.heap.get? f = some (PySem.W.kla_obj "<lambda>" (X.env.qual ++ "<lambda>") params body scope (cloFrom X.env.cells scope.names []) pm c' ctv)) (hfn : H f = none) (hfr : f ∉ frs X.stack)
    (hbind : bindArgs (PySem.W.kla_fn "<lambda>" (X.env.qual ++ "<lambda>") params body scope (cloFrom X.env.cells scope.names []) pm (.ref c') ctv) ⟨[], []⟩ = pure [])
    (tk : L2N.Takes ((gotCx X Ng qg sg g cdg s H).tr pn xe) W) (hW : ∀ cls d σ' H', E cls d H' → W cls d σ' H') (hr : Room (k + 1) (X.A.deeper (envOfC qg sg s.heap.objs.size g cdg)))
    (hbody : ∀ (s1 : Shared) (HZ : Hp), PE (lamCxN X (X.A.deeper (envOfC qg sg s.heap.objs.size g cdg)) (envOfC qg sg s.heap.objs.size g cdg :: X.stack) s1 HZ E scope f c') body tb)
    (hN : Ng[i]? = some a) (hv : Vis sg a) (hd : (a == ("__debug__" : Str)) = false) (hcd : (a == ("__classdict__" : Str)) = false) :
    PE ((gotCx X Ng qg sg g cdg s H).tr pn xe) (.Call (.Name a p1) [] [] p2) (fun σZ HZ Q => σZ[i]? = some (some (.ref f)) ∧ HZ c' = some (LamX.CodeO c' (X.env.qual ++ "<lambda>")) ∧ tb σ HZ Q) := by
  refine ⟨fun qs sZ σZ HZ Q IZ ⟨has, code, go⟩ => wpAny_Call_Name_kw (thn ((pe_var (pos := p1) (i := i) hN hv hd hcd).run qs sZ σZ HZ (fun v H1 => v = .ref f ∧ H1 = HZ) IZ ⟨.ref f, has, rfl, rfl⟩) fun u s1 ⟨v, H1, I1, r1, ev, eH⟩ => ?_)⟩
  subst ev
  subst eH
  obtain rfl : u = Value.ref f := r1
  have here : s1.heap.get? f = some (PySem.W.kla_obj "<lambda>" (X.env.qual ++ "<lambda>") params body scope (cloFrom X.env.cells scope.names []) pm c' ctv) := I1.base.keep f _ hf hfn hfr fun z => nomatch (show f ∈ ([] : List Addr) from z)
  obtain ⟨⟨oc, vs, t, hoc, hdc, hvc⟩, _, _⟩ := I1.hok c' _ code
  refine PySem.W.callWith_F0 ⟨_, _, _, _, here⟩ (wpAny_call (codeAny_mono (R := CR (L2N.CX X.prog X.w) (envOfC qg sg s.heap.objs.size g cdg :: X.stack) X.prog X.w H1 s1 Q E) ?_ fun r s' hq => ?_))
  · refine PySem.W.kla_callFunE hr.depth here rfl L.co L.gen rfl ⟨c', oc, vs, t, rfl, hoc, hdc, hvc⟩ ?_
    rw [List.append_nil, hbind]
    refine wpAny_pure (wpAny_newFunctionEnv (fun y hy => (L.own y hy).2) (fun y hy => absurd hy (by simp)) (fun h₁ hns hsb => ⟨I1.nolimit.fresh _ hsb, ?_⟩) L.kind)
    have kp : ∀ b o, s1.heap.get? b = some o → h₁.get? b = some o := fun b o e => hsb.extBut b o (Nat.ne_of_lt (Heap.lt_size e)) (Heap.get?_push_of_some _ e)
    have J := LamX.lam_start2 (E := E) (f := f) (c' := c') (tk := s1.toks + ([] : List (Str × Value)).length) I L I1.env0 hr.hd I1.base hns kp
    refine PySem.W.kla_codeExpr (wpAny_mono ((hbody s1 H1).run [] _ _ H1 Q (J.toTry _) go) (fun v s' ⟨w', H', J', rv, q⟩ => ?_) fun e s' hq => hq)
    exact ⟨w', H', J'.os, J'.bare, J'.base, J'.hok, rv, q⟩
  · cases r with
    | error e => exact L2N.passes_call tk hW qs σZ H1 s1 e s' I1 hq
    | ok fl =>
      cases fl with
      | ret u => exact I1.after hq
      | next => exact hq.elim
      | brk => exact hq.elim
      | cont => exact hq.elim
end
end Pd
end
section
/-! Pd, errors, part y: x(lambda: e), where x catches the errors of e. -/
namespace Pd
open PySem PySem.Spec PyProof.Rows L2
open PySem.W (Frag)
def stEq : Store → Store → Bool
  | [], [] => true
  | a :: r, b :: s => Cell.beq a b && stEq r s
  | _, _ => false
theorem stEq_refl : ∀ S : Store, stEq S S = true
  | [] => rfl
  | a :: r => by simp only [stEq, Cell.beq_refl a, stEq_refl r]; rfl
theorem stEq_eq : ∀ {S T : Store}, stEq S T = true → S = T
  | [], [], _ => rfl
  | [], _ :: _, h => by cases h
  | _ :: _, [], h => by cases h
  | a :: r, b :: s, h => by
    simp only [stEq, Bool.and_eq_true] at h
    rw [Cell.beq_eq h.1, stEq_eq h.2]
/-- i: the table; fe: the lambda's expression; bT: what is said of its value d, in a def of nT names, d the jy-th; fX: what is said of an error -/
def caughtR (S : Store) (nT jy : Nat) (bT : EvS) (fX : FD) : Res (D × Store) → Res (D × Store)
  | .ok (d, S1) => match bT ((List.replicate nT none).set jy (some d)) S1 with
    | .rt d2 S2 => leave S d2 S2
    | _ => .bad
  | .exc x S1 => match fX [.exn x.c x.fs] S1 with
    | .ok (d2, S2) => if (nox d2 && stEq S1 S2) = true then leave S d2 S2 else .bad
    | _ => .bad
  | .bad => .bad
def eCaught (i : Nat) (fe : EvE) (nT jy : Nat) (bT : EvS) (fX : FD) : EvE := fun ρ S => match S[i]? with
  | some (.tbl k) => if k = i then caughtR S nT jy bT fX (fe ρ S) else .bad
  | _ => .bad
theorem call1_eq {fX : FD} {j : Nat} {ρ : Slots} {S : Store} {d : D} (h : ρ[j]? = some (some d)) : eCallP 1 0 fX [] [0] 1 (aCons (eVar j) aNil) aNil ρ S = fX [d] S := by
  simp [eCallP, aCons, aNil, eVar, h, Res.bind, pick]
theorem leave_run {G : Ga} {E : XK} {F : List Addr} {H H2 : Hp} {m m2 : List Addr} {S S2 : Store} {d : D} {v : V} {Q : VK} (s0 : SR G F H m S) (kk : Kp H m (lv m S) H2 m2 (lv m2 S2)) (s2 : SR G F H2 m2 S2) (r : VD G H2 m2 (lw F m2 S2) d v) (h : RunE G E F (leave S d S2) H m (lv m S) Q) : Q v H2 := by
  cases q : leave S d S2 with
  | ok p =>
    obtain ⟨d', S3⟩ := p
    rw [q] at h
    obtain ⟨m3, k3, s3, r3⟩ := leave_ok s0 kk s2 r q
    exact h _ _ m3 k3 s3 r3
  | exc x S3 =>
    unfold leave at q
    split at q
    · cases q
    · split at q
      · split at q <;> cases q
      · cases q
  | bad => rw [q] at h; exact h.elim
section
variable {X : Cx} {G : Ga} {E : XK}
theorem x_caught {x a y n xe x1 x2 x3 xp : Str} {g c P C1 C2 C3 ge : Addr} {fdg : FuncData} {pg : Arguments} {bg : List Stmt} {sg : Scope} {Ng : List Str} {i jy jn k kk : Nat} {last : Stmt} {fe : EvE} {bT : EvS} {fX : FD} {params : Arguments} {body : Expr} {scope : Scope}
    {py p1 p2 p3 q1 q2 q3 tp qe qn qc qr ph pt p lpos pos : Pos}
    (g0 : G.xa = none) (W : Wf X G) (hr : Rm none (k + 2) X) (hm : X.mg x = some (.ref g)) (hk : PySem.W.keepIn X.K (.ref g) = true) (Fg : FunD X.K x x pg bg sg [] [] g fdg) (hbg : Binds X.K fdg [a] []) (Sg : FnScope Ng [a] sg)
    (hbd : bg = [.Try [.Assign [.Name y py] (.Call (.Name a p1) [] [] p2) p3] [.ExceptHandler (some (.Tuple [.Name x1 q1, .Name x2 q2, .Name x3 q3] kk tp)) (some n) [.Return (some (.Call (.Name xe qe) [.Name n qn] [] qc)) qr] ph] [] [] pt, last])
    (ia : Ng[0]? = some a) (va : Vis sg a) (iy : Ng[jy]? = some y) (ly : sg.names.lookup y = some .local) (jn_ : Ng[jn]? = some n) (ln : sg.names.lookup n = some .local)
    (g1 : sg.names.lookup x1 = some .globalImplicit) (m1 : X.mg x1 = some (.ref C1)) (g2 : sg.names.lookup x2 = some .globalImplicit) (m2 : X.mg x2 = some (.ref C2)) (g3 : sg.names.lookup x3 = some .globalImplicit) (m3 : X.mg x3 = some (.ref C3))
    (gE : sg.names.lookup xe = some .globalImplicit) (mE : X.mg xe = some (.ref ge)) (kE : PySem.W.keepIn X.K (.ref ge) = true)
    (dbg : ∀ z ∈ [a, x1, x2, x3, n, xe, x], (z == ("__debug__" : Str)) = false) (dcl : ∀ z ∈ [a, n], (z == ("__classdict__" : Str)) = false)
    (hXm : ∀ C ∈ G.xc, PySem.W.exmAny X.K (.ref C) [.ref C1, .ref C2, .ref C3] = some true) (hXc : ∀ C ∈ G.xc, ExcC X.K C)
    (hX : ∀ (e : Addr) (oe : Obj) (ci : Nat) (dd : Option Addr), GP (some (e, oe)) X.K (G.at (some (e, ci, dd))) → ∃ fde, BP X.K fde [xp] 1 [] [] [0] ∧ FnG (some (e, oe)) X.prog X.w X.K X.mg X.base k ge fde [xp] (spD (G.at (some (e, ci, dd))) 1 fX))
    (hT : ∀ (cdg : Value) (s : Shared) (H : Hp), Wf (gotCx X Ng x sg g cdg s H) G → Rm none k (gotCx X Ng x sg g cdg s H) → Bd none (gotCx X Ng x sg g cdg s H) E0 → PSs (gotCx X Ng x sg g cdg s H) [last] (tS G E0 bT))
    (L : LamX.LamS X.env.scope scope) (hcode : X.env.code = .ref c) (TB : LamX.TabB X.base X.mg c P) (ht : G.tab[i]? = some (P, X.env.qual ++ "<lambda>")) (hdef : defaultsOf params X.env = ([], []))
    (hbind : ∀ (q : Str) (cl : List (Str × Addr)) (pm cv ctv : Value), bindArgs (PySem.W.kla_fn "<lambda>" q params body scope cl pm cv ctv) ⟨[], []⟩ = pure [])
    (hL : ∀ (A : Around) (outer : List Env) (s : Shared) (H : Hp) (E : XK) (f c' : Addr), Wf (lamCxN X A outer s H E scope f c') G → Rm none k (lamCxN X A outer s H E scope f c') → Bd none (lamCxN X A outer s H E scope f c') E → PE (lamCxN X A outer s H E scope f c') body (tX G E fe))
    (hg : Gl X x) : PE X (.Call (.Name x p) [.Lambda params body scope lpos] [] pos) (tX G E (eCaught i fe Ng.length jy bT fX)) := by
  subst hbd
  obtain ⟨oc, od, dV, kV, doc, pm0, an, cdv, ct, osl, rfl, lk, hcd, _, _⟩ := Fg.ex
  refine ⟨fun pins s σ H Q I h => ?_⟩
  obtain ⟨F, ρ, m, S, hE, hS, h⟩ := h
  unfold eCaught at h
  split at h
  case h_2 => exact h.elim
  case h_1 k0 hn =>
  split at h
  case isFalse => exact h.elim
  case isTrue ek =>
  subst ek
  have hmP : m[k0]? = some P := by
    have hlt : k0 < m.length := by
      rw [← hS.len]
      exact (List.getElem?_eq_some_iff.mp hn).1
    obtain ⟨q, ps, e0, _⟩ := hS.cell k0 _ _ hn (List.getElem?_eq_getElem hlt)
    rw [ht] at e0
    cases e0
    exact List.getElem?_eq_getElem hlt
  refine wpAny_Call_Name_kw (ld_glob I hg hm (PySem.W.callWith_K (h₀ := X.base) I.ok.mod.kin hk ?_ (by rfl) (by rfl)) (dbg x (by simp)))
  show wpAny _ _ (spliced ((false, eval (.Lambda params body scope lpos) X.env) :: backTo pos (starEach [] X.env))) _ _ s
  refine Calls.spliced_cons (lam_make3 I TB hcode hS hn hmP ht hdef (L.has I.ok) fun f c' pm ctv H1 s' I1 k1 s1 hf hfn hfr hco => ?_)
  refine Calls.spliced_nil ⟨I1.kIn, wpAny_call (codeAny_mono (R := CR (L2N.CX X.prog X.w) X.stack X.prog X.w H1 s' Q E0) ?_ fun r s2 hq => ?_)⟩
  · refine LamX.run_ofS (N := Ng) (ps := [a]) (us := [.ref f]) (vs := [.ref f]) lk hcd Sg hr.room I1.env0 (hbg s' [.ref f] I1.kIn rfl) (.cons rfl .nil) rfl fun hr' => ?_
    have un' := hr'.un
    have wf : Wf (gotCx X Ng x sg g cdv s' H1) G := ⟨W.K, W.nd, by show (X.A.deeper _).units + 70 < cLine; omega, W.guards⟩
    have rm : Rm none (k + 1) (gotCx X Ng x sg g cdv s' H1) := ⟨L2H.roomH_of hr', fun _ => hr'.hd, fun p e => by cases e⟩
    have bd : Bd none (gotCx X Ng x sg g cdv s' H1) E0 := ⟨L2N.passes_call (L2N.takes_of rfl rfl rfl rfl) fun _ _ _ _ h => h, passes_of rfl, fun _ => rfl, L2N.takes_of rfl rfl rfl rfl⟩
    have try_ := ps_try3 (X := gotCx X Ng x sg g cdv s' H1) (p1 := q1) (p2 := q2) (p3 := q3) (tp := tp) (pos' := ph) (pos := pt) (kk := kk) (body := [.Assign [.Name y py] (.Call (.Name a p1) [] [] p2) p3]) (b₀ := .Return (some (.Call (.Name xe qe) [.Name n qn] [] qc)) qr) (suite := [])
      (tb := fun Wx D σZ HZ => ∃ Ech : XK, (∀ cls d σ' H', Ech cls d H' → σ'.length = Ng.length → Wx cls d σ' H') ∧ σZ[0]? = some (some (.ref f)) ∧ HZ c' = some (LamX.CodeO c' (X.env.qual ++ "<lambda>")) ∧ tX G Ech fe σ HZ fun v H' => D.nx (σZ.set jy (some v)) H')
      (ts := fun e cls d D σZ HZ => ∃ ci C, cls = .ref C ∧ G.xc[ci]? = some C ∧ tS (G.at (some (e, ci, d))) E0 (sRet (eCallP 1 0 fX [] [0] 1 (aCons (eVar jn) aNil) aNil)) D σZ HZ)
      rfl rfl Sg.nd jn_ ln g1 m1 (dbg x1 (by simp)) g2 m2 (dbg x2 (by simp)) g3 m3 (dbg x3 (by simp)) (fun Wx pn xe' tk own => ?_) (fun e oe cls d pn hz hv => ?_)
    rotate_left
    · refine ⟨fun qs sZ σZ HZ D IZ ⟨Ech, hW, h1, h2, h3⟩ => ?_⟩
      have pa := pe_actN (i := 0) (p1 := p1) (p2 := p2) I1 L hf hfn hfr (hbind _ _ _ _ _) (takes_len tk) hW hr' (fun sL HL => hL _ _ sL HL Ech f c' ⟨W.K, W.nd, by show ((X.A.deeper _).deeper _).units + 70 < cLine; have := (hr'.deeper (LamX.lamEnv X scope sL.heap.objs.size f c')).un; omega, W.guards⟩
        ⟨L2H.roomH_of (hr'.deeper _), fun _ => hr'.hd, fun p e => by cases e⟩ ⟨L2N.passes_call (L2N.takes_of rfl rfl rfl rfl) fun _ _ _ _ h => h, passes_of rfl, fun _ => rfl, L2N.takes_of rfl rfl rfl rfl⟩) ia va (dbg a (by simp)) (dcl a (by simp))
      exact (pss_one (ps_set (pos' := py) (pos := p3) Sg.nd iy (.inl ly) pa)).run qs sZ σZ HZ D IZ ⟨h1, h2, h3⟩
    · refine ⟨fun qs sZ σZ HZ D IZ ⟨ci, C, ec, hC, h⟩ => ?_⟩
      have gp : GP (some (e, oe)) X.K (G.at (some (e, ci, d))) := ⟨fun e' c' dd' z => by
        cases z
        exact ⟨oe, C, rfl, hC, by rw [hz.1, ec], hz.2.1, hv, hXc C (List.mem_of_getElem? hC)⟩⟩
      obtain ⟨fde, bp, O⟩ := hX e oe ci d gp
      obtain ⟨vs, ef⟩ := hv
      have wfS : Wf ((gotCx X Ng x sg g cdv s' H1).suite e ((e, oe) :: pn)) (G.at (some (e, ci, d))) := ⟨W.K, W.nd, wf.units, W.guards⟩
      have rmS : Rm (some (e, oe)) k ((gotCx X Ng x sg g cdv s' H1).suite e ((e, oe) :: pn)) := ⟨⟨(rm.rm.mono (Nat.le_succ k)).dp, (rm.rm.mono (Nat.le_succ k)).un⟩, (fun z => by cases z), fun p z => by
        cases z
        exact ⟨⟨rfl, vs, ef, hz.2.2 vs ef⟩, List.mem_cons_self⟩⟩
      exact (pss_one (s_ret (pos := qr) (x_fn (px := qe) (pos := qc) wfS mE kE O rmS bp consts_nil passE0 (ca_pos (a_cons (x_var (pos := qn) jn jn_ (.inl ln) (dbg n (by simp)) (dcl n (by simp))) a_nil)) gE (dbg xe (by simp))))).run qs sZ σZ HZ D IZ h
    · refine ⟨_, pss_cons try_ (hT cdv s' H1 wf (rm.mono (Nat.le_succ k)) bd), ?_⟩
      have h0 : (L2.start Ng [V.ref f])[0]? = some (some (V.ref f)) := by simp [L2.start]
      have hlenN : (L2.start Ng [V.ref f]).length = Ng.length := by
        have := (List.getElem?_eq_some_iff.mp ia).1
        simp [L2.start]
        omega
      have hjy : jy < Ng.length := (List.getElem?_eq_some_iff.mp iy).1
      have hjn : jn < Ng.length := (List.getElem?_eq_some_iff.mp jn_).1
      have env0 : ∀ {G' : Ga} {H' : Hp} {m' L' : List Addr} {σ' : L2.St}, σ'.length = Ng.length → EnvR G' H' m' L' (List.replicate Ng.length none) σ' := fun hl => ⟨by simp [hl], fun i d e => by
        rw [List.getElem?_replicate] at e
        split at e <;> cases e⟩
      refine ⟨fun cls d H' => ∀ σ' : L2.St, σ'.length = Ng.length → wThree X.K [.ref C1, .ref C2, .ref C3] jn _ _ cls d σ' H', fun cls d σ' H' h hl => h σ' hl, h0, hco, F, ρ, m, S, hE.mono k1, s1, ?_⟩
      cases q : fe ρ S with
      | bad => rw [q] at h; exact h.elim
      | ok ds =>
        obtain ⟨d, S1⟩ := ds
        rw [q] at h
        intro v H' m' kk' s2 r2
        refine ⟨F, (List.replicate Ng.length none).set jy (some d), m', S1, (env0 hlenN).set r2, s2, ?_⟩
        simp only [caughtR] at h
        cases qb : bT ((List.replicate Ng.length none).set jy (some d)) S1 with
        | rt d2 S2 =>
          rw [qb] at h
          intro v2 H2 m2' k3 s3 r3
          exact leave_run hS (k1.trans (kk'.trans k3)) s3 r3 h
        | nx _ _ => rw [qb] at h; exact h.elim
        | bk _ _ => rw [qb] at h; exact h.elim
        | ct _ _ => rw [qb] at h; exact h.elim
        | exc _ _ => rw [qb] at h; exact h.elim
        | bad => rw [qb] at h; exact h.elim
      | exc ex S1 =>
        rw [q] at h
        intro cls dd H' m' kk' s2 r2 σ' hl
        obtain ⟨C, gs, hC, rfl, hd, hfs⟩ := r2
        refine ⟨hXm C (List.mem_of_getElem? hC), fun e ne => ⟨ex.c, C, rfl, hC, F, (List.replicate Ng.length none).set jn (some (.exn ex.c ex.fs)), m', S1, (env0 hl).set (.exn rfl hd (hfs.up g0)), s2.up g0, ?_⟩⟩
        simp only [caughtR] at h
        unfold sRet
        rw [call1_eq (d := .exn ex.c ex.fs) (List.getElem?_set_self (by simpa using hjn))]
        cases qx : fX [.exn ex.c ex.fs] S1 with
        | ok p2 =>
          obtain ⟨d2, S2⟩ := p2
          rw [qx] at h
          simp only at h
          split at h
          · rename_i hb
            obtain ⟨b1, b2⟩ := Bool.and_eq_true_iff.mp hb
            obtain rfl := stEq_eq b2
            intro v2 H2 m2' k3 s3 r3
            exact leave_run hS (k1.trans (kk'.trans k3)) (SR.back g0 s2 s3) (VD.back b1 r3) h
          · exact h.elim
        | exc _ _ => rw [qx] at h; exact h.elim
        | bad => rw [qx] at h; exact h.elim
  · cases r with
    | error e =>
      obtain ⟨_, _, _, _, _, _, _, _, _, _, _, _, z⟩ := hq
      exact z.elim
    | ok fl =>
      cases fl with
      | ret u => exact I1.after hq
      | next => exact hq.elim
      | brk => exact hq.elim
      | cont => exact hq.elim
end
end Pd
end
section
/-! Pd, errors, part z: the head and the law's end with tables of code objects. -/
namespace Pd
open PySem PySem.Spec PyProof.Rows L2
open PySem.W (Frag)

/-! ### the head -/
/-- a def's code object and its table -/
def tabOf (g : Addr → Option Obj) (K : Frag) (d : DefP) : Addr × Addr := match K.lookup (d.ad K) with
  | some ⟨_, _, .func fd, _⟩ => match fd.code with
    | .ref c => match g c with
      | some ⟨_, _, .fields vs, _⟩ => match (vs[11]? : Option Value) with
        | some (.ref P) => (c, P)
        | _ => (0, 0)
      | _ => (0, 0)
    | _ => (0, 0)
  | _ => (0, 0)
def isS : Value → Bool
  | .str _ _ => true
  | _ => false
def isI : Value → Bool
  | .int _ _ => true
  | _ => false
def isB : Value → Bool
  | .bool _ => true
  | _ => false
def codeB (g : Addr → Option Obj) (c P : Addr) : Bool := match g c with
  | some ⟨t, _, .fields vs, _⟩ => decide (t = .type "code") && (decide (vs[11]? = some (.ref P)) && (decide (vs.getD 11 .none = .ref P) && (isS (vs.getD 18 .none) && (isI (vs.getD 7 .none) && (isB (vs.getD 9 .none) && (isI (vs.getD 10 .none) && decide (c ≠ P)))))))
  | _ => false
theorem codeB_ok {h : Heap} {c P : Addr} (e : codeB h.get? c P = true) : PySem.W.CodeHd h c P := by
  unfold codeB at e
  split at e
  · rename_i t dd vs sl ho
    simp only [Bool.and_eq_true, decide_eq_true_eq] at e
    obtain ⟨h1, h2, h3, h4, h5, h6, h7, h8⟩ := e
    have s4 : ∃ a b, vs.getD 18 .none = .str a b := by
      revert h4
      cases vs.getD 18 .none <;> intro h4 <;> first | exact ⟨_, _, rfl⟩ | cases h4
    have s5 : ∃ a b, vs.getD 7 .none = .int a b := by
      revert h5
      cases vs.getD 7 .none <;> intro h5 <;> first | exact ⟨_, _, rfl⟩ | cases h5
    have s6 : ∃ a, vs.getD 9 .none = .bool a := by
      revert h6
      cases vs.getD 9 .none <;> intro h6 <;> first | exact ⟨_, rfl⟩ | cases h6
    have s7 : ∃ a b, vs.getD 10 .none = .int a b := by
      revert h7
      cases vs.getD 10 .none <;> intro h7 <;> first | exact ⟨_, _, rfl⟩ | cases h7
    obtain ⟨a1, a2, s4⟩ := s4
    obtain ⟨a3, a4, s5⟩ := s5
    obtain ⟨a5, s6⟩ := s6
    obtain ⟨a6, a7, s7⟩ := s7
    exact ⟨_, vs, a1, a2, a3, a4, a5, a6, a7, ho, h1, rfl, h2, h3, s4, s5, s6, s7, h8⟩
  · cases e
def emptyB (g : Addr → Option Obj) (P : Addr) : Bool := match g P with
  | some ⟨.none, none, .fields ps, sl⟩ => decide (ps.toList = []) && decide (sl.toList = [])
  | _ => false
theorem emptyB_ok {h : Heap} {P : Addr} (e : emptyB h.get? P = true) : h.get? P = some { cls := .none, data := .fields #[] } := by
  unfold emptyB at e
  split at e
  · rename_i ps sl ho
    simp only [Bool.and_eq_true, decide_eq_true_eq] at e
    obtain ⟨h1, h2⟩ := e
    obtain ⟨ps⟩ := ps
    obtain ⟨sl⟩ := sl
    simp only at h1 h2
    subst h1 h2
    exact ho
  · cases e
def lamB (g : Addr → Option Obj) (K : Frag) (d : DefP) : Bool := (match K.lookup (d.ad K) with
    | some ⟨_, _, .func fd, _⟩ => decide (fd.code = .ref (tabOf g K d).1)
    | _ => false) && (codeB g (tabOf g K d).1 (tabOf g K d).2 && (emptyB g (tabOf g K d).2 && decide (K.lookup (tabOf g K d).2 = none)))
def tabsB (g : Addr → Option Obj) (K : Frag) (lam : List DefP) : Bool := lam.all (lamB g K) && decide ((lam.map fun d => (tabOf g K d).2).Nodup)
/-- the tables of the defs in lam -/
structure TabsAt (h : Heap) (K : Frag) (lam : List DefP) (cs : List (Addr × Addr)) : Prop where
  len : cs.length = lam.length
  nd : (cs.map (·.2)).Nodup
  code : ∀ (i : Nat) d p, lam[i]? = some d → cs[i]? = some p → ∃ oc od fd sl, K.lookup (d.ad K) = some ⟨oc, od, .func fd, sl⟩ ∧ fd.code = .ref p.1
  hd : ∀ p ∈ cs, PySem.W.CodeHd h p.1 p.2
  tab : ∀ p ∈ cs, h.get? p.2 = some { cls := .none, data := .fields #[] }
  out : ∀ p ∈ cs, K.lookup p.2 = none
theorem tabsB_ok {h : Heap} {K : Frag} {lam : List DefP} (e : tabsB h.get? K lam = true) : TabsAt h K lam (lam.map (tabOf h.get? K)) := by
  obtain ⟨e1, e2⟩ := Bool.and_eq_true_iff.mp e
  have all := List.all_eq_true.mp e1
  have each : ∀ d ∈ lam, (∃ oc od fd sl, K.lookup (d.ad K) = some ⟨oc, od, .func fd, sl⟩ ∧ fd.code = .ref (tabOf h.get? K d).1) ∧ PySem.W.CodeHd h (tabOf h.get? K d).1 (tabOf h.get? K d).2 ∧ h.get? (tabOf h.get? K d).2 = some { cls := .none, data := .fields #[] } ∧ K.lookup (tabOf h.get? K d).2 = none := fun d hd => by
    have z := all d hd
    unfold lamB at z
    simp only [Bool.and_eq_true] at z
    obtain ⟨z1, z2, z3, z4⟩ := z
    refine ⟨?_, codeB_ok z2, emptyB_ok z3, of_decide_eq_true z4⟩
    split at z1
    · rename_i oc od fd sl ho
      exact ⟨oc, od, fd, sl, ho, of_decide_eq_true z1⟩
    · cases z1
  refine ⟨by simp, ?_, fun i d p h1 h2 => ?_, fun p hp => ?_, fun p hp => ?_, fun p hp => ?_⟩
  · rw [List.map_map]
    exact of_decide_eq_true e2
  · rw [List.getElem?_map, h1] at h2
    cases h2
    exact (each d (List.mem_of_getElem? h1)).1
  · obtain ⟨d, hd, rfl⟩ := List.mem_map.mp hp
    exact (each d hd).2.1
  · obtain ⟨d, hd, rfl⟩ := List.mem_map.mp hp
    exact (each d hd).2.2.1
  · obtain ⟨d, hd, rfl⟩ := List.mem_map.mp hp
    exact (each d hd).2.2.2
theorem TabsAt.keeps {h h' : Heap} {K : Frag} {lam : List DefP} {cs : List (Addr × Addr)} (t : TabsAt h K lam cs) (k : ∀ b o, h.get? b = some o → h'.get? b = some o) : TabsAt h' K lam cs :=
  ⟨t.len, t.nd, t.code, fun p hp => (t.hd p hp).keeps k, fun p hp => k _ _ (t.tab p hp), t.out⟩
abbrev AlT : Type := AlP × Bool
/-- the written part, but empty tables -/
def frT (g : Addr → Option Obj) (n : Nat) : Frag := He.frG g ((He.asD g n ++ [cStatics]).filter fun a => !emptyB g a)
def obsTG (n : Nat) (bs : List (Frag → Bool)) (fn lam : List DefP) (g : Addr → Option Obj) : AlT := (obsP bs fn (frT g n), tabsB g (frT g n) lam)
def hookT (n : Nat) (bs : List (Frag → Bool)) (fn lam : List DefP) : PySem.W.Hook where
  α := AlT
  obs := fun s => obsTG n bs fn lam s.heap.get?
  val := fun _ => (valP fn, true)
  says := fun _ h => ∃ K : Frag, K.In h ∧ SaysP bs fn K ∧ ∃ cs, TabsAt h K lam cs
  of := fun _ _ e => ⟨_, He.frG_in, congrArg Prod.fst e, _, tabsB_ok (congrArg Prod.snd e)⟩
  keeps := fun _ _ _ ⟨K, hK, c, cs, t⟩ k => ⟨K, PySem.W.Frag.In.keeps hK k, c, cs, t.keeps k⟩
theorem obsTG_eq {n : Nat} {bs : List (Frag → Bool)} {fn lam : List DefP} (s : PySem.W.SharedT) : obsTG n bs fn lam (HandSHeadRun.getT s) = (hookT n bs fn lam).obs s.abs := by
  have e : HandSHeadRun.getT s = s.abs.heap.get? := funext (HandSHeadRun.getT_eq s)
  rw [e] <;> rfl
end Pd
end
section
/-! Pd, errors: the law's end with tables of code objects. -/
namespace Pd
open PySem PySem.Spec PyProof.Rows L2
open PySem.W (Frag)

theorem law_endT {P : Program} {w : World} {K : Frag} {mg mb : Str → Option Value} {k : Nat} {fa a : Addr} {fd : FuncData} {x : Str} {sp : Sp} {s₁ : Shared} {vs : List Value} {ns : List Int} {lam : List DefP} {cs : List (Addr × Addr)}
    (KX : K.In s₁.heap) (hns : s₁.heap.Ns mainGlobals mg) (hb : s₁.heap.Ns builtinsNs mb) (hbb : ∀ x : Str, x ≠ "__name__" → mb x = bootBuiltins x) (hlim : s₁.heap.NoLimit) (hg : s₁.gens = #[]) (T : TabsAt s₁.heap K lam cs)
    (hbm : ∃ (bm : Addr) (ob : Obj), mg "__builtins__" = some (.ref bm) ∧ bm ≠ builtinsNs ∧ s₁.heap.get? bm = some ob ∧ ob.cls = .type "module" ∧ ob.dict = some builtinsNs ∧ ob.data = .plain)
    (ha : s₁.heap.get? a = some { cls := .type "list", data := .seq vs.toArray }) (hi : IntsAre vs ns) (hl : ns.length ≤ sizeLine) (hr : Room k callerA)
    (hF : ∀ base : Heap, K.In base → base.Ns mainGlobals mg → (∀ p ∈ cs, LamX.TabB base mg p.1 p.2) → FnG none P w K mg base k fa fd [x] sp) (hbind : ∀ (s : Shared) (u : Value), BindsTo s fd ⟨[u], []⟩ [(x, u)])
    (hsp : ∀ H : Hp, (∀ b ∈ cs.map (·.2), H b = some (.tbl #[])) → a ∉ cs.map (·.2) → SqL K H a (ns.map V.int) → sp [.ref a] H (fun v _ => v = .bl true) E0) :
    codeAny (model P w) callerA (.call (.ref fa) ⟨[.ref a], []⟩) (fun r s' => r = .ok (.ret (.bool true)) ∧ OldK s₁.heap s'.heap ∧ s'.os = s₁.os ∧ AllBare s'.gens) s₁ := by
  have rv := vals_ints hi
  have lenV := hi.length
  have tabs : ∀ b, b ∈ cs.map (·.2) → s₁.heap.get? b = some { cls := .none, data := .fields #[] } := fun b hb => by
    obtain ⟨p, hp, rfl⟩ := List.mem_map.mp hb
    exact T.tab p hp
  have apart : a ∉ cs.map (·.2) := fun z => by
    have q := (tabs a z).symm.trans ha
    cases q
  have core : ∀ H : Hp, (∀ b ∈ cs.map (·.2), H b = some (.tbl #[])) → (∀ b u, H b = some u → (b = a ∧ K.lookup a = none ∧ ∃ ob xs, u = .frz ob (.lst xs)) ∨ b ∈ cs.map (·.2)) → SqL K H a (ns.map V.int) → HOk P w H s₁.heap →
      codeAny (model P w) callerA (.call (.ref fa) ⟨[.ref a], []⟩) (fun r s' => r = .ok (.ret (.bool true)) ∧ OldK s₁.heap s'.heap ∧ s'.os = s₁.os ∧ AllBare s'.gens) s₁ := by
    intro H hH hA hS hok
    have free : ∀ {b : Addr} {o : Obj}, s₁.heap.get? b = some o → (∀ us n, o.data ≠ .seq us n) → o.data ≠ .fields #[] → H b = none := fun {b o} e h1 h2 => by
      cases q : H b with
      | none => rfl
      | some u =>
        rcases hA b u q with ⟨rfl, _⟩ | z
        · rw [ha] at e
          cases e
          exact (h1 _ _ rfl).elim
        · rw [tabs b z] at e
          cases e
          exact (h2 rfl).elim
    have keepNs : ∀ {b : Addr} {m : Str → Option Value}, s₁.heap.Ns b m → (hidT s₁.heap H).Ns b m := fun {b m} ⟨o, es, ep, e, d, r⟩ => ⟨o, es, ep, hidT_get e (free e (fun us n z => by rw [d] at z; cases z) fun z => by rw [d] at z; cases z), d, r⟩
    have inB : K.In (hidT s₁.heap H) := fun b o e => by
      refine hidT_get (KX b o e) ?_
      cases q : H b with
      | none => rfl
      | some u =>
        rcases hA b u q with ⟨rfl, z, _⟩ | z
        · rw [z] at e
          cases e
        · obtain ⟨p, hp, rfl⟩ := List.mem_map.mp z
          rw [T.out p hp] at e
          cases e
    have modB : Mod K mg (hidT s₁.heap H) := ⟨inB, keepNs hns, ⟨mb, keepNs hb, hbb⟩, let ⟨mc, h1, h2⟩ := hlim; ⟨mc, keepNs h1, h2⟩⟩
    have TB : ∀ p ∈ cs, LamX.TabB (hidT s₁.heap H) mg p.1 p.2 := fun p hp => by
      have tp := T.tab p hp
      obtain ⟨oG, es, ep, eG, dG, _⟩ := hns
      refine ⟨?_, ?_, fun z => ?_⟩
      · obtain ⟨o, us, r0, r1, r2, r3, r4, r5, r6, e1, e2, e3, e4, e5⟩ := T.hd p hp
        exact ⟨o, us, r0, r1, r2, r3, r4, r5, r6, hidT_get e1 (free e1 (fun us n z => by rw [e3] at z; cases z) fun z => by rw [e3] at z; cases z; simp at e4), e2, e3, e4, e5⟩
      · obtain ⟨bm, ob, b1, b2, b3, b4, b5, b6⟩ := hbm
        refine ⟨bm, ob, b1, b2, fun q => ?_, fun q => ?_, hidT_get b3 (free b3 (fun us n z => by rw [b6] at z; cases z) fun z => by rw [b6] at z; cases z), b4, b5, b6⟩
        · rw [q, eG] at b3
          cases b3
          rw [dG] at b6
          cases b6
        · rw [q, tp] at b3
          cases b3
          cases b6
      · rw [z, tp] at eG
        cases eG
        cases dG
    have e0 : Env0 P w K mg (hidT s₁.heap H) callerA [] s₁ H := ⟨rfl, modB, fun b o e => of_hidT e, Nat.le_of_eq (hidT_size _ _), trivial, fun b hb => (List.not_mem_nil (show b ∈ ([] : List Addr) from hb)).elim, hok, .of_eq hg⟩
    refine codeAny_mono ((hF _ inB (keepNs hns) TB).run callerA [] s₁ H ⟨[.ref a], []⟩ [.ref a] [.ref a] _ E0 rfl (rm_of hr) e0 (hbind s₁ (.ref a)) (.cons rfl .nil) (hsp H hH apart hS)) fun r s' h => ?_
    cases r with
    | error e =>
      obtain ⟨_, _, _, _, _, _, _, _, _, _, _, _, z⟩ := h
      exact z.elim
    | ok fl =>
      cases fl with
      | ret u =>
        obtain ⟨v, H', os, bare, un, hok', r', q⟩ := h
        obtain rfl : v = .bl true := q
        obtain rfl : u = Value.bool true := r'
        have stay : ∀ b o, b ∉ cs.map (·.2) → s₁.heap.get? b = some o → s'.heap.get? b = some o := fun b o nb e => by
          cases q : H b with
          | none => exact un.keep b o e q (fun z => List.not_mem_nil (show b ∈ ([] : List Addr) from z)) (by simp)
          | some u =>
            rcases hA b u q with ⟨_, _, ob, xs, rfl⟩ | z
            · obtain ⟨e1, _⟩ := hok b _ q
              obtain ⟨e2, _⟩ := hok' b _ (un.frzs b ob _ q)
              rw [e] at e1; cases e1
              exact e2
            · exact absurd z nb
        have more : ∀ b, b ∈ cs.map (·.2) → ∃ ps : Array Value, s'.heap.get? b = some { cls := .none, data := .fields ps } := fun b hb => by
          obtain ⟨ps, z⟩ := un.tbls b #[] (hH b hb)
          exact ⟨_, hok' b _ z⟩
        refine ⟨rfl, ⟨fun b o e => ?_, fun b o e => ?_⟩, os, bare⟩
        · by_cases nb : b ∈ cs.map (·.2)
          · obtain ⟨ps, e2⟩ := more b nb
            have e3 := tabs b nb
            rw [e3] at e
            cases e
            obtain ⟨p, hp, rfl⟩ := List.mem_map.mp nb
            exact .inr (.inl ⟨((T.hd p hp).tab (T.tab p hp)).isCodeTable, rfl, #[], ps, rfl, by rw [Array.empty_append]; exact e2⟩)
          · exact .inl (stay b o nb e)
        · by_cases nb : b ∈ cs.map (·.2)
          · exact let ⟨ps, e2⟩ := more b nb; ⟨_, e2⟩
          · exact ⟨o, stay b o nb e⟩
      | _ => exact False.elim h
  let Ht : Hp := fun b => if b ∈ cs.map (·.2) then some (.tbl #[]) else none
  have inT : ∀ {b : Addr} {u : HO}, Ht b = some u → b ∈ cs.map (·.2) ∧ u = .tbl #[] := fun {b u} z => by
    by_cases hb : b ∈ cs.map (·.2)
    · exact ⟨hb, (Option.some.inj ((if_pos hb).symm.trans z)).symm⟩
    · exact nomatch (if_neg hb).symm.trans z
  have okT : ∀ b u, Ht b = some u → ObjOk P w Ht s₁.heap b u := fun b u z => by
    obtain ⟨hb, rfl⟩ := inT z
    exact tabs b hb
  cases hk : K.lookup a with
  | some o =>
    have e := KX a o hk
    rw [ha] at e
    cases e
    exact core Ht (fun b hb => if_pos hb) (fun b u z => .inr (inT z).1) (.inr ⟨_, vs.toArray, _, hk, rfl, rfl, rfl, by rw [List.size_toArray, lenV]; exact hl, by simpa using rv⟩) okT
  | none =>
    let fz : HO := .frz { cls := .type "list", data := .seq vs.toArray } (.lst (ns.map V.int))
    have at_ : ∀ {b : Addr} {u : HO}, (if b = a then some fz else Ht b) = some u → (b = a ∧ u = fz) ∨ (b ≠ a ∧ Ht b = some u) := fun {b u} z => by
      by_cases hb : b = a
      · exact .inl ⟨hb, (Option.some.inj ((if_pos hb).symm.trans z)).symm⟩
      · exact .inr ⟨hb, (if_neg hb).symm.trans z⟩
    refine core (fun b => if b = a then some fz else Ht b) (fun b hb => ?_) (fun b u z => ?_) (.inl (.inr ⟨{ cls := .type "list", data := .seq vs.toArray }, if_pos rfl⟩)) (fun b u z => ?_)
    · have ne : b ≠ a := fun q => apart (by rw [← q]; exact hb)
      exact (if_neg ne).trans (if_pos hb)
    · rcases at_ z with ⟨e, rfl⟩ | ⟨_, z⟩
      · exact .inl ⟨e, hk, _, _, rfl⟩
      · exact .inr (inT z).1
    · rcases at_ z with ⟨rfl, rfl⟩ | ⟨_, z⟩
      · exact ⟨ha, by rw [List.length_map]; exact hl, vs, _, rv, ha⟩
      · obtain ⟨hb, rfl⟩ := inT z
        exact tabs b hb
/-- the walk that the head leaves -/
theorem walk_T {l : PySem.W.OpenLaw} {n k : Nat} {q : Program} {loose : List Str} {XP : (Str → Option Value) → Heap → Prop} {YP : World → Heap → Prop} {d : DefRec} {x : Str} {lam : List DefP}
    (hn : l.most = some n) (hn2 : n ≤ sizeLine) (hdf : d.params.defaults = []) (hr : Room k callerA)
    (hF : ∀ (w : World) (mg : Str → Option Value) (fa : Addr) (h : Heap), YP w h → h.Ns mainGlobals mg → mg d.name = some (.ref fa) →
      ∃ (K : Frag) (cs : List (Addr × Addr)) (fd : FuncData) (sp : Sp), K.In h ∧ TabsAt h K lam cs ∧ (∀ (s : Shared) (u : Value), BindsTo s fd ⟨[u], []⟩ [(x, u)]) ∧
        (∀ (H : Hp) (a : Addr) (ns : List Int), ns.length ≤ n → (∀ b ∈ cs.map (·.2), H b = some (.tbl #[])) → a ∉ cs.map (·.2) → SqL K H a (ns.map V.int) → sp [.ref a] H (fun v _ => v = .bl true) E0) ∧
        ∀ base : Heap, K.In base → base.Ns mainGlobals mg → (∀ p ∈ cs, LamX.TabB base mg p.1 p.2) → FnG none l.prog w K mg base k fa fd [x] sp) :
    PySem.W.WalkO q loose XP YP l.row.toRowW d [] (fun f vs => PySem.call f vs) := by
  refine Att.attach_call hn hdf fun w s₀ s₁ mg mb fa o pm cd doc a vs ns G Y ho hd hcd hmg hobj hints hlen hg => ?_
  obtain ⟨K, cs, fd, sp, KX, T, hb, hsp, hF⟩ := hF w mg fa _ Y G.T.g hmg
  exact law_endT KX G.T.g G.T.b G.T.builtins G.T.nolimit hg T G.T.bmain hobj hints (Nat.le_trans hlen hn2) hr hF hb fun H hH na hS => hsp H a ns hlen hH na hS
/-- the tables that a law begins with -/
def tblS (n : Nat) : Store := (List.range n).map .tbl
theorem law_spT {G : Ga} {fL : FD} {n : Nat} {ts : List Addr} {qs : List Str} (ht : G.tab = ts.zip qs) (hl : ts.length = qs.length) (nd : ts.Nodup) (h : ∀ ns : List Int, ns.length ≤ n → ∃ S, fL [.scr (ns.map .int)] (tblS qs.length) = .ok (.bl true, S)) (H : Hp) (a : Addr) (ns : List Int) (hn : ns.length ≤ n)
    (hH : ∀ b ∈ ts, H b = some (.tbl #[])) (na : a ∉ ts) (hS : SqL G.K H a (ns.map V.int)) : spD G 1 fL [.ref a] H (fun v _ => v = .bl true) E0 := by
  obtain ⟨S, e⟩ := h ns hn
  have s0 : SR G [] H ts (tblS qs.length) := by
    refine ⟨by simp [tblS, hl], nd, fun b hb => ⟨_, hH b hb⟩, (fun _ h => by cases h), fun i c b h1 h2 => ?_⟩
    have hlt : i < ts.length := (List.getElem?_eq_some_iff.mp h2).1
    have hlt2 : i < qs.length := by rw [← hl]; exact hlt
    have ec : c = .tbl i := by
      unfold tblS at h1
      rw [List.getElem?_map, List.getElem?_range hlt2] at h1
      cases h1
      rfl
    subst ec
    refine ⟨qs[i], #[], ?_, hH b (List.mem_of_getElem? h2), trivial, fun pos cv z => ?_⟩
    · rw [ht, List.getElem?_zip_eq_some]
      exact ⟨h2, List.getElem?_eq_getElem hlt2⟩
    · simp [codeAmong] at z
  have nL : a ∉ lw [] ts (tblS qs.length) := fun z => na (lv_sub (by simpa [lw] using z))
  have r0 : VD G H ts (lw [] ts (tblS qs.length)) (.scr (ns.map .int)) (.ref a) := by
    refine .scr ?_ (vds_ints ns)
    rcases hS with hS | ⟨o, its, n, h1, h2⟩
    · exact .inl ⟨hS, nL⟩
    · exact .inr (.inr ⟨o, its, n, h1, h2⟩)
  refine ⟨rfl, [], [.scr (ns.map .int)], ts, tblS qs.length, .cons r0 .nil, s0, ?_⟩
  rw [e]
  intro v H' m' _ _ r
  cases r with
  | bl b => rfl
/-- what a def with lambdas knows of its table -/
structure TabZ (lam : List DefP) (K : Frag) (mg : Str → Option Value) (base : Heap) (cs : List (Addr × Addr)) : Prop where
  len : cs.length = lam.length
  code : ∀ (i : Nat) d p, lam[i]? = some d → cs[i]? = some p → ∃ oc od fd sl, K.lookup (d.ad K) = some ⟨oc, od, .func fd, sl⟩ ∧ fd.code = .ref p.1
  tb : ∀ p ∈ cs, LamX.TabB base mg p.1 p.2
theorem TabZ.at_ {lam : List DefP} {K : Frag} {mg : Str → Option Value} {base : Heap} {cs : List (Addr × Addr)} {qs : List Str} (z : TabZ lam K mg base cs) (i : Nat) {d : DefP} {q : Str} {fd : FuncData} {x qual : Str} {params : Arguments} {body : List Stmt} {scope : Scope} {dvs : List V}
    (F : FunD K x qual params body scope dvs [] (d.ad K) fd) (hd : lam[i]? = some d) (hq : qs[i]? = some q) : ∃ c P, fd.code = .ref c ∧ LamX.TabB base mg c P ∧ ((cs.map (·.2)).zip qs)[i]? = some (P, q) := by
  have hlt : i < cs.length := by
    rw [z.len]
    exact (List.getElem?_eq_some_iff.mp hd).1
  obtain ⟨oc, od, fd', sl, lk, e⟩ := z.code i d _ hd (List.getElem?_eq_getElem hlt)
  obtain ⟨_, _, _, _, _, _, _, _, _, _, rfl, lk2, _⟩ := F.ex
  rw [lk2] at lk
  simp only [Option.some.injEq, Obj.mk.injEq, Data.func.injEq] at lk
  obtain ⟨_, _, rfl, _⟩ := lk
  exact ⟨_, _, e, z.tb _ (List.getElem_mem hlt), by rw [List.getElem?_zip_eq_some]; exact ⟨by rw [List.getElem?_map, List.getElem?_eq_getElem hlt]; rfl, hq⟩⟩
end Pd
end
section
/-! Pd, part Hd: the head with the addresses told. -/
namespace Pd
open PySem PySem.Spec PyProof.Rows L2
open PySem.W (Frag)
def obsTL (as : List Addr) (bs : List (Frag → Bool)) (fn lam : List DefP) (g : Addr → Option Obj) : AlT := (obsP bs fn (He.frG g as), tabsB g (He.frG g as) lam)
def hookTL (as : List Addr) (bs : List (Frag → Bool)) (fn lam : List DefP) : PySem.W.Hook where
  α := AlT
  obs := fun s => obsTL as bs fn lam s.heap.get?
  val := fun _ => (valP fn, true)
  says := fun _ h => ∃ K : Frag, K.In h ∧ SaysP bs fn K ∧ ∃ cs, TabsAt h K lam cs
  of := fun _ _ e => ⟨_, He.frG_in, congrArg Prod.fst e, _, tabsB_ok (congrArg Prod.snd e)⟩
  keeps := fun _ _ _ ⟨K, hK, c, cs, t⟩ k => ⟨K, PySem.W.Frag.In.keeps hK k, c, cs, t.keeps k⟩
theorem obsTL_eq {as : List Addr} {bs : List (Frag → Bool)} {fn lam : List DefP} (s : PySem.W.SharedT) : obsTL as bs fn lam (HandSHeadRun.getT s) = (hookTL as bs fn lam).obs s.abs := by
  have e : HandSHeadRun.getT s = s.abs.heap.get? := funext (HandSHeadRun.getT_eq s)
  rw [e] <;> rfl
/-- the tests in two parts -/
theorem obs_cut {as : List Addr} {bs : List (Frag → Bool)} {fn lam : List DefP} {k : Nat} {g : Addr → Option Obj} (h1 : obsTL as (bs.take k) [] [] g = (valP [], true)) (h2 : obsTL as (bs.drop k) fn lam g = (valP fn, true)) : obsTL as bs fn lam g = (valP fn, true) := by
  have e : (bs.all fun f => f (He.frG g as)) = (((bs.take k).all fun f => f (He.frG g as)) && (bs.drop k).all fun f => f (He.frG g as)) := by
    rw [← List.all_append, List.take_append_drop]
  have a1 : ((bs.take k).all fun f => f (He.frG g as)) = true := by
    have z := congrArg (fun p : AlT => p.1.1) h1
    simp only [obsTL, obsP, valP, List.all_nil, Bool.and_true] at z
    exact z
  rw [← h2]
  simp only [obsTL, obsP, e, a1, Bool.true_and]
theorem run_cut {r : PySem.W.OpenRow} {q : Program} {as : List Addr} {bs : List (Frag → Bool)} {fn lam : List DefP} {M : Nat} {loose : List Str} {w : World} (k : Nat)
    (h1 : HandSHeadRun.RunEq r q (hookTL as (bs.take k) [] []) (fun s => obsTL as (bs.take k) [] [] (HandSHeadRun.getT s)) M loose w)
    (h2 : ∀ os : OsState, (HandSHeadRun.endF (HandSHeadRun.stepQ (HandSHeadRun.denQ HandSHeadRun.tabQ) r.prog w) M r.prog w os).map (fun s => obsTL as (bs.drop k) fn lam (HandSHeadRun.getT s)) = some (valP fn, true)) :
    HandSHeadRun.RunEq r q (hookTL as bs fn lam) (fun s => obsTL as bs fn lam (HandSHeadRun.getT s)) M loose w := fun os => by
  have z1 := h1 os
  have z2 := h2 os
  revert z1 z2
  cases (HandSHeadRun.endF (HandSHeadRun.stepQ (HandSHeadRun.denQ HandSHeadRun.tabQ) r.prog w) M r.prog w os) with
  | none => exact fun z1 => nomatch z1
  | some s =>
    intro z1 z2
    have y1 := Option.some.inj z1
    have y2 : obsTL as (bs.drop k) fn lam (HandSHeadRun.getT s) = (valP fn, true) := Option.some.inj z2
    have y3 : obsTL as (bs.take k) [] [] (HandSHeadRun.getT s) = (valP [], true) := congrArg (fun p => p.2.2) y1
    refine congrArg some ?_
    refine Prod.ext (congrArg (fun p => p.1) y1) (Prod.ext (congrArg (fun p => p.2.1) y1) ?_)
    exact obs_cut y3 y2
end Pd
end
section
/-! Pd, part X: what the laws' helpers do. -/
namespace Pd
open PySem PySem.Spec PyProof.Rows L2

theorem leave_same {S T : Store} {d : D} (h : T.length = S.length) : leave S d T = .ok (d, T) := by
  unfold leave
  rw [if_pos h]


/-! ### the operators at their kinds -/
section
variable {S : Store}
theorem addD_int {a b : Int} : addD S (.int a) (.int b) = some (.int (a + b)) := rfl
theorem addD_str {a b : Str} (h : a.length + b.length ≤ 16777216) : addD S (.str a) (.str b) = some (.str (a ++ b)) := by
  show (if _ then _ else _) = _
  rw [if_pos h]
theorem addD_tup {a b : List D} (h : a.length + b.length ≤ 16777216) : addD S (.tup a) (.tup b) = some (.tup (a ++ b)) := by
  show (if _ then _ else _) = _
  rw [if_pos h]
theorem addD_lst {a b : List D} (h : a.length + b.length ≤ 16777216) : addD S (.lst a) (.lst b) = some (.lst (a ++ b)) := by
  show (if _ then _ else _) = _
  rw [if_pos h]
theorem subD_int {a b : Int} : subD S (.int a) (.int b) = some (.int (a - b)) := rfl
theorem mulOk_l {a b : Int} (h : -18446744073709551616 < a) (h2 : a < 18446744073709551616) : mulOk a b = true := by
  unfold mulOk; exact decide_eq_true (.inl ⟨h, h2⟩)
theorem mulOk_r {a b : Int} (h : -18446744073709551616 < b) (h2 : b < 18446744073709551616) : mulOk a b = true := by
  unfold mulOk; exact decide_eq_true (.inr ⟨h, h2⟩)
theorem mulD_int {a b : Int} (h : mulOk a b = true) : mulD S (.int a) (.int b) = some (.int (a * b)) := by
  show (if _ then _ else _) = _
  rw [if_pos h]
theorem modD_int {a b : Int} (h : 0 < b) : modD S (.int a) (.int b) = some (.int (a % b)) := by
  show (if _ then _ else _) = _
  rw [if_pos h]
theorem fdivD_int {a b : Int} (h : 0 < b) (h2 : b.natAbs.log2 < 9000) : fdivD S (.int a) (.int b) = some (.int (a / b)) := by
  show (if _ then _ else _) = _
  rw [if_pos ⟨h, h2⟩]
theorem ltD_int {a b : Int} : ltD S (.int a) (.int b) = some (.bl (decide (a < b))) := rfl
theorem gtD_int {a b : Int} : gtD S (.int a) (.int b) = some (.bl (decide (b < a))) := rfl
theorem leD_int {a b : Int} : leD S (.int a) (.int b) = some (.bl (decide (a ≤ b))) := rfl
theorem geD_int {a b : Int} : geD S (.int a) (.int b) = some (.bl (decide (b ≤ a))) := rfl
theorem ixD_tup {xs : List D} {i : Int} : ixD S (.tup xs) (.int i) = atI xs i := rfl
theorem ixD_lst {xs : List D} {i : Int} : ixD S (.lst xs) (.int i) = atI xs i := rfl
theorem ixD_scr {xs : List D} {i : Int} : ixD S (.scr xs) (.int i) = atI xs i := rfl
theorem ixD_ref {n : Nat} {xs : List D} {i : Int} (h : S[n]? = some (.lst xs)) : ixD S (.ref n) (.int i) = atI xs i := by
  simp only [ixD, seqL, h]
theorem setC_ref {n : Nat} {xs : List D} {i : Int} {d : D} (h : S[n]? = some (.lst xs)) : setC S (.ref n) (.int i) d = (ixN xs.length i).map fun j => S.set n (.lst (xs.set j d)) := by
  simp only [setC, h]
theorem atI_nat {α : Type} {xs : List α} {k : Nat} {x : α} (h : xs[k]? = some x) : atI xs (k : Int) = some x := by
  unfold atI ixN
  have := (List.getElem?_eq_some_iff.mp h).1
  rw [if_pos (by omega), if_pos (by omega)]
  simpa using h
theorem atI_0 {α : Type} {a : α} {r : List α} : atI (a :: r) 0 = some a := atI_nat (k := 0) rfl
theorem atI_1 {α : Type} {a b : α} {r : List α} : atI (a :: b :: r) 1 = some b := atI_nat (k := 1) rfl
theorem atI_2 {α : Type} {a b c : α} {r : List α} : atI (a :: b :: c :: r) 2 = some c := atI_nat (k := 2) rfl
theorem atI_3 {α : Type} {a b c d : α} {r : List α} : atI (a :: b :: c :: d :: r) 3 = some d := atI_nat (k := 3) rfl
theorem atI_4 {α : Type} {a b c d e : α} {r : List α} : atI (a :: b :: c :: d :: e :: r) 4 = some e := atI_nat (k := 4) rfl
theorem atI_5 {α : Type} {a b c d e f : α} {r : List α} : atI (a :: b :: c :: d :: e :: f :: r) 5 = some f := atI_nat (k := 5) rfl
theorem atI_6 {α : Type} {a b c d e f g : α} {r : List α} : atI (a :: b :: c :: d :: e :: f :: g :: r) 6 = some g := atI_nat (k := 6) rfl
theorem atI_7 {α : Type} {a b c d e f g h : α} {r : List α} : atI (a :: b :: c :: d :: e :: f :: g :: h :: r) 7 = some h := atI_nat (k := 7) rfl
theorem atI_8 {α : Type} {a b c d e f g h i : α} {r : List α} : atI (a :: b :: c :: d :: e :: f :: g :: h :: i :: r) 8 = some i := atI_nat (k := 8) rfl
theorem divmodD_int {a b : Int} (h : 0 < b) (h2 : b < 1073741824) : divmodD (.int a) (.int b) = some (.tup [.int (a / b), .int (a % b)]) := by
  show (if _ then _ else _) = _
  rw [if_pos ⟨h, h2⟩]
theorem toIntD_int {a : Int} : toIntD (.int a) = some (.int a) := rfl
theorem truD_bl {b : Bool} : truD S (.bl b) = some b := rfl
end

/-! ### a purse -/
def purse (a b c : Int) : Cell := .lst [.int a, .int b, .int c]
/-- T is S with some purse at n -/
def PP (S : Store) (n : Nat) (T : Store) : Prop := n < S.length ∧ ∃ a b c, T = S.set n (purse a b c) ∧ 0 ≤ a ∧ a < 2147483629 ∧ 0 ≤ b
theorem PP.len {S T : Store} {n : Nat} (h : PP S n T) : T.length = S.length := by
  obtain ⟨_, a, b, c, rfl, _⟩ := h
  simp
theorem PP.lens {S T T' : Store} {n : Nat} (h : PP S n T) (h' : PP S n T') : T'.length = T.length := h'.len.trans h.len.symm
theorem PP.app {S T : Store} {n : Nat} (h : PP S n T) (X : Store) : PP (S ++ X) n (T ++ X) := by
  obtain ⟨hn, a, b, c, rfl, hb⟩ := h
  refine ⟨by simp; omega, a, b, c, ?_, hb⟩
  rw [List.set_append_left _ _ hn]
theorem PP.unapp {S T X : Store} {n : Nat} (hn : n < S.length) (h : PP (S ++ X) n T) : ∃ T0, T = T0 ++ X ∧ PP S n T0 := by
  obtain ⟨_, a, b, c, rfl, hb⟩ := h
  exact ⟨S.set n (purse a b c), List.set_append_left _ _ hn, hn, a, b, c, rfl, hb⟩
theorem PP.trans {S T T' : Store} {n : Nat} (h : PP S n T) (h' : PP T n T') : PP S n T' := by
  obtain ⟨hn, a, b, c, rfl, _⟩ := h
  obtain ⟨_, a', b', c', rfl, hb⟩ := h'
  exact ⟨hn, a', b', c', List.set_set .., hb⟩
theorem PP.self {S T : Store} {n : Nat} (h : PP S n T) : PP T n T := by
  obtain ⟨hn, a, b, c, rfl, hb⟩ := h
  exact ⟨by simpa using hn, a, b, c, (List.set_set ..).symm, hb⟩
theorem oldOk_refl (S X : Store) (k : Nat) : oldOk k S (S ++ X) = true := by
  induction S with
  | nil => rfl
  | cons y s ih => simp only [List.cons_append, oldOk, Cell.beq_refl, Bool.true_or, Bool.true_and]; exact ih
theorem oldOk_set (k : Nat) {c d : Cell} (hd : nrC k d = true) (X : Store) : ∀ (S : Store) (n : Nat), oldOk k (S.set n c) (S.set n d ++ X) = true
  | [], _ => rfl
  | x :: r, 0 => by
    simp only [List.set_cons_zero, List.cons_append, oldOk, hd, Bool.or_true, Bool.true_and]
    exact oldOk_refl r X k
  | x :: r, n + 1 => by
    simp only [List.set_cons_succ, List.cons_append, oldOk, Cell.beq_refl, Bool.true_or, Bool.true_and]
    exact oldOk_set k hd X r n
theorem PP.old {S T T' : Store} {n : Nat} (h : PP S n T) (h' : PP S n T') (X : Store) : oldOk T.length T (T' ++ X) = true := by
  obtain ⟨hn, a, b, c, rfl, _⟩ := h
  obtain ⟨_, a', b', c', rfl, _⟩ := h'
  exact oldOk_set _ rfl X S n
theorem leave_new {S T X : Store} {d d' : D} (hl : T.length = S.length) (hx : X ≠ []) (ho : oldOk S.length S (T ++ X) = true) (hf : fz (T ++ X) S.length 6 d = some d') : leave S d (T ++ X) = .ok (d', T) := by
  unfold leave
  have : ¬(T ++ X).length = S.length := by
    intro h
    apply hx
    have : (T ++ X).length = T.length := by rw [h, hl]
    simpa using this
  rw [if_neg this, if_pos ho, hf]
  simp [← hl]
theorem ixN_lit {n : Nat} {i : Int} (h0 : 0 ≤ i) (h1 : i < n) : ixN n i = some i.toNat := by
  unfold ixN
  rw [if_pos h0, if_pos h1]

def pickB : EvS :=
    (sSeq (sSub (eBin addD (eBin ixD (eVar 0) (eC (.int 2))) (eC (.int 1))) (eVar 0) (eC (.int 2)))
    (sSeq (sPar 2 3 (aCons (eCb (f1 toIntD) (aCons (eBin ixD (eVar 0) (eC (.int 0))) aNil)) (aCons (eBin ixD (eVar 0) (eC (.int 2))) aNil)))
    (sSeq (sSet 4 (eBin mulD (eBin addD (eVar 2) (eBin mulD (eC (.int 6997)) (eVar 3))) (eBin addD (eBin modD (eCb (f1 toIntD) (aCons (eVar 2) aNil)) (eC (.int 44497))) (eC (.int 21001)))))
    (sSeq (sSub (eBin modD (eCb (f1 toIntD) (aCons (eBin addD (eBin addD (eVar 4) (eBin mulD (eC (.int 70001)) (eVar 3))) (eC (.int 5))) aNil)) (eC (.int 2147483629))) (eVar 0) (eC (.int 0)))
    (sSeq (sIf (eB (eBin gtD (eBin ixD (eVar 0) (eC (.int 1))) (eC (.int 0)))) (sSeq (sAsq (eCb (f2 divmodD) (aCons (eBin ixD (eVar 0) (eC (.int 1))) (aCons (eVar 1) aNil))) (qTu 2 (qCn (qSub (eVar 0) (eC (.int 1))) (qCn (qN 5) qNl))))
    (sRet (eVar 5))) sNil)
    (sRet (eBin modD (eCb (f1 toIntD) (aCons (eBin fdivD (eBin ixD (eVar 0) (eC (.int 0))) (eC (.int 128))) aNil)) (eVar 1))))))))
def pickF : FD := fnD 6 pickB

theorem pick_spec {S T : Store} {n : Nat} {many : Int} (h : PP S n T) (h1 : 1 ≤ many) (h2 : many < 1073741824) : ∃ k T', pickF [.ref n, .int many] T = .ok (.int k, T') ∧ 0 ≤ k ∧ k < many ∧ PP S n T' := by
  obtain ⟨hn, a, b, c, rfl, ha, ha2, hb⟩ := h
  have e0 : ixN 3 0 = some 0 := rfl
  have e1 : ixN 3 1 = some 1 := rfl
  have e2 : ixN 3 2 = some 2 := rfl
  have g : ∀ x, (S.set n x)[n]? = some x := fun x => List.getElem?_set_self hn
  have m1 : ∀ x, mulOk 6997 x = true := fun x => mulOk_l (by decide) (by decide)
  have m2 : ∀ x, mulOk 70001 x = true := fun x => mulOk_l (by decide) (by decide)
  have m3 : ∀ x, mulOk x (a % 44497 + 21001) = true := fun x => mulOk_r (by omega) (by omega)
  have l1 : (0 : Int) < 44497 := by decide
  have l2 : (0 : Int) < 2147483629 := by decide
  have l3 : (0 : Int) < 128 := by decide
  have l4 : Nat.log2 (Int.natAbs 128) < 9000 := by decide +kernel
  have l5 : (0 : Int) < many := by omega
  simp only [pickF, pickB, eVar, eC, eBin, eBinR, eB, eTru, eNotT, eOrT, eAndT, eNot, eAnd, eOr, eIf, sSeq, sSet, sIf, sRet, sRetN, sExpr, sNil, sPar, sPar3, sAsg, sAsq, gTu, gCn, gN, gNl, qTu, qCn, qN, qNl, qSub, aCons, aNil, aApp, eTup, eLst, eCel, ofO, ofP, Res.bind, Res.out, Res.bind0, eCb, f1, f2, eCallP, eSl, eSlS, pNone, pSome, sSub, eFld, fnD, fnDC, startD, pick, eChain, eIsi, eProp, noX, eMt, eM0, sFor, iSeq, iRange1, iRange2, eDct0, onlyS, onlyB, addD_int, subD_int, ltD_int, gtD_int, leD_int, geD_int, ixD_tup, ixD_lst, ixD_scr, atI_0, atI_1, atI_2, atI_3, atI_4, atI_5, atI_6, atI_7, atI_8, toIntD_int, truD_bl, List.getElem?_cons_zero, List.getElem?_cons_succ, List.getElem?_nil, List.set_cons_zero, List.set_cons_succ, List.length_cons, List.length_nil, List.map_cons, List.map_nil, List.replicate, List.append_nil, List.nil_append, List.cons_append, List.filterMap_cons, List.filterMap_nil, Nat.sub_self, Nat.zero_add, Nat.reduceAdd, Nat.reduceSub, Option.map_some, Option.map_none, if_true, if_false, ite_true, ite_false, reduceIte, Bool.false_eq_true, Nat.reduceLeDiff, Nat.reduceLT, Int.reduceLE, Int.reduceLT, Int.reduceEq, Nat.reduceBEq, Nat.reduceEqDiff, beq_self_eq_true, Bool.and_self, Bool.and_true, Bool.true_and, Bool.not_true, Bool.not_false, Bool.or_true, Bool.true_or, Bool.false_or, Bool.or_false, Bool.and_false, Bool.false_and, decide_true, decide_false, purse, setC_ref (g _), ixD_ref (g _), e0, e1, e2, List.set_set, mulD_int (m1 _), mulD_int (m2 _), mulD_int (m3 _), modD_int l1, modD_int l2, modD_int l5, fdivD_int l3 l4, divmodD_int l5 h2]
  by_cases hp : 0 < b
  · simp only [decide_eq_true hp, eVar, eC, eBin, eBinR, eB, eTru, eNotT, eOrT, eAndT, eNot, eAnd, eOr, eIf, sSeq, sSet, sIf, sRet, sRetN, sExpr, sNil, sPar, sPar3, sAsg, sAsq, gTu, gCn, gN, gNl, qTu, qCn, qN, qNl, qSub, aCons, aNil, aApp, eTup, eLst, eCel, ofO, ofP, Res.bind, Res.out, Res.bind0, eCb, f1, f2, eCallP, eSl, eSlS, pNone, pSome, sSub, eFld, fnD, fnDC, startD, pick, eChain, eIsi, eProp, noX, eMt, eM0, sFor, iSeq, iRange1, iRange2, eDct0, onlyS, onlyB, addD_int, subD_int, ltD_int, gtD_int, leD_int, geD_int, ixD_tup, ixD_lst, ixD_scr, atI_0, atI_1, atI_2, atI_3, atI_4, atI_5, atI_6, atI_7, atI_8, toIntD_int, truD_bl, List.getElem?_cons_zero, List.getElem?_cons_succ, List.getElem?_nil, List.set_cons_zero, List.set_cons_succ, List.length_cons, List.length_nil, List.map_cons, List.map_nil, List.replicate, List.append_nil, List.nil_append, List.cons_append, List.filterMap_cons, List.filterMap_nil, Nat.sub_self, Nat.zero_add, Nat.reduceAdd, Nat.reduceSub, Option.map_some, Option.map_none, if_true, if_false, ite_true, ite_false, reduceIte, Bool.false_eq_true, Nat.reduceLeDiff, Nat.reduceLT, Int.reduceLE, Int.reduceLT, Int.reduceEq, Nat.reduceBEq, Nat.reduceEqDiff, beq_self_eq_true, Bool.and_self, Bool.and_true, Bool.true_and, Bool.not_true, Bool.not_false, Bool.or_true, Bool.true_or, Bool.false_or, Bool.or_false, Bool.and_false, Bool.false_and, decide_true, decide_false, setC_ref (g _), e1, List.set_set]
    rw [leave_same (by simp)]
    refine ⟨_, _, rfl, Int.emod_nonneg _ (by omega), Int.emod_lt_of_pos _ l5, hn, _, _, _, rfl, Int.emod_nonneg _ (by omega), Int.emod_lt_of_pos _ (by omega), ?_⟩
    exact Int.ediv_nonneg hb (by omega)
  · simp only [decide_eq_false hp, eVar, eC, eBin, eBinR, eB, eTru, eNotT, eOrT, eAndT, eNot, eAnd, eOr, eIf, sSeq, sSet, sIf, sRet, sRetN, sExpr, sNil, sPar, sPar3, sAsg, sAsq, gTu, gCn, gN, gNl, qTu, qCn, qN, qNl, qSub, aCons, aNil, aApp, eTup, eLst, eCel, ofO, ofP, Res.bind, Res.out, Res.bind0, eCb, f1, f2, eCallP, eSl, eSlS, pNone, pSome, sSub, eFld, fnD, fnDC, startD, pick, eChain, eIsi, eProp, noX, eMt, eM0, sFor, iSeq, iRange1, iRange2, eDct0, onlyS, onlyB, addD_int, subD_int, ltD_int, gtD_int, leD_int, geD_int, ixD_tup, ixD_lst, ixD_scr, atI_0, atI_1, atI_2, atI_3, atI_4, atI_5, atI_6, atI_7, atI_8, toIntD_int, truD_bl, List.getElem?_cons_zero, List.getElem?_cons_succ, List.getElem?_nil, List.set_cons_zero, List.set_cons_succ, List.length_cons, List.length_nil, List.map_cons, List.map_nil, List.replicate, List.append_nil, List.nil_append, List.cons_append, List.filterMap_cons, List.filterMap_nil, Nat.sub_self, Nat.zero_add, Nat.reduceAdd, Nat.reduceSub, Option.map_some, Option.map_none, if_true, if_false, ite_true, ite_false, reduceIte, Bool.false_eq_true, Nat.reduceLeDiff, Nat.reduceLT, Int.reduceLE, Int.reduceLT, Int.reduceEq, Nat.reduceBEq, Nat.reduceEqDiff, beq_self_eq_true, Bool.and_self, Bool.and_true, Bool.true_and, Bool.not_true, Bool.not_false, Bool.or_true, Bool.true_or, Bool.false_or, Bool.or_false, Bool.and_false, Bool.false_and, decide_true, decide_false, ixD_ref (g _), fdivD_int l3 l4, modD_int l5]
    rw [leave_same (by simp)]
    exact ⟨_, _, rfl, Int.emod_nonneg _ (by omega), Int.emod_lt_of_pos _ l5, hn, _, _, _, rfl, Int.emod_nonneg _ (by omega), Int.emod_lt_of_pos _ (by omega), hb⟩
end Pd
end
section
/-! Pd, part Y: the laws' numbers, loops. -/
namespace Pd
open PySem PySem.Spec PyProof.Rows L2

/-- a loop that keeps something -/
theorem loop_inv {g : Tg} {body : EvS} (I : Nat → Slots → Store → Prop) : ∀ {xs : List D} {k : Nat} {ρ : Slots} {S : Store}, I k ρ S →
    (∀ (i : Nat) (x : D) (ρ : Slots) (S : Store), xs[i]? = some x → I (k + i) ρ S → ∃ ρ0, g x ρ = some ρ0 ∧ ∃ ρ1 S1, (body ρ0 S = .nx ρ1 S1 ∨ body ρ0 S = .ct ρ1 S1) ∧ I (k + i + 1) ρ1 S1) →
    ∃ ρ1 S1, loopL g body xs ρ S = .nx ρ1 S1 ∧ I (k + xs.length) ρ1 S1
  | [], k, ρ, S, h, _ => ⟨ρ, S, rfl, h⟩
  | x :: r, k, ρ, S, h, st => by
    obtain ⟨ρ0, e0, ρ1, S1, e1, h1⟩ := st 0 x ρ S rfl h
    obtain ⟨ρ2, S2, e2, h2⟩ := loop_inv I (xs := r) (k := k + 1) (ρ := ρ1) (S := S1) h1 fun i y ρ S hy hi => by
      have := st (i + 1) y ρ S (by simpa using hy) (by rw [show k + (i + 1) = k + 1 + i by omega]; exact hi)
      rw [show k + (i + 1) + 1 = k + 1 + i + 1 by omega] at this
      exact this
    refine ⟨ρ2, S2, ?_, by rw [List.length_cons, show k + (r.length + 1) = k + 1 + r.length by omega]; exact h2⟩
    unfold loopL
    rw [e0]
    rcases e1 with e1 | e1 <;> simp only [e1, e2]

theorem rangeD_len (lo : Int) (n : Nat) : (rangeD lo n).length = n := by simp [rangeD]
theorem rangeD_get {lo : Int} {n i : Nat} {x : D} (h : (rangeD lo n)[i]? = some x) : x = .int (lo + i) ∧ i < n := by
  have hl := (List.getElem?_eq_some_iff.mp h).1
  rw [rangeD_len] at hl
  refine ⟨?_, hl⟩
  unfold rangeD at h
  rw [List.getElem?_map, List.getElem?_range hl] at h
  cases h
  rfl

def numberB : EvS :=
    (sSeq (sIf (eB (eBin ltD (eVar 1) (eCb lenF (aCons (eVar 0) aNil)))) (sRet (eBin ixD (eVar 0) (eVar 1))) sNil)
    (sSeq (sSet 2 (eBin modD (eCb (f1 toIntD) (aCons (eBin mulD (eC (.int 61343)) (eBin addD (eBin addD (eBin mulD (eVar 1) (eVar 1)) (eBin mulD (eC (.int 5)) (eVar 1))) (eC (.int 17)))) aNil)) (eC (.int 2147483587))))
    (sSeq (sFor (iSeq (eSl (eVar 0) pNone (pSome (eC (.int 3))))) (gN 3) (sSet 2 (eBin modD (eCb (f1 toIntD) (aCons (eBin addD (eBin mulD (eVar 2) (eC (.int 40487))) (eVar 3)) aNil)) (eC (.int 2147483587)))))
    (sRet (eVar 2)))))
def numberF : FD := fnD 4 numberB
theorem lenF_scr {S : Store} {xs : List D} : lenF S [.scr xs] = some (.int xs.length, S) := rfl
theorem lenF_lst {S : Store} {xs : List D} : lenF S [.lst xs] = some (.int xs.length, S) := rfl
theorem lenF_tup {S : Store} {xs : List D} : lenF S [.tup xs] = some (.int xs.length, S) := rfl
theorem lenF_str {S : Store} {a : Str} (h : a.length ≤ sizeLine) : lenF S [.str a] = some (.int a.length, S) := by
  show (if _ then _ else _) = _
  rw [if_pos h]
theorem slD_scr {S : Store} {xs : List D} {l h : Option Int} : slD S (.scr xs) l h = some (.lst (cutD xs l h)) := rfl
theorem slD_lst {S : Store} {xs : List D} {l h : Option Int} : slD S (.lst xs) l h = some (.lst (cutD xs l h)) := rfl
theorem slD_tup {S : Store} {xs : List D} {l h : Option Int} : slD S (.tup xs) l h = some (.tup (cutD xs l h)) := rfl
theorem cutD_sub {α : Type} {xs : List α} {l h : Option Int} {x : α} (hx : x ∈ cutD xs l h) : x ∈ xs := List.mem_of_mem_drop (List.mem_of_mem_take hx)
theorem number_spec {S : Store} {ns : List Int} {k : Int} (h0 : 0 ≤ k) (h1 : k < 1000) : ∃ y, numberF [.scr (ns.map .int), .int k] S = .ok (.int y, S) := by
  have m1 : ∀ x, mulOk 61343 x = true := fun x => mulOk_l (by decide) (by decide)
  have m2 : mulOk k k = true := mulOk_l (by omega) (by omega)
  have m3 : ∀ x, mulOk 5 x = true := fun x => mulOk_l (by decide) (by decide)
  have m4 : ∀ x, mulOk x 40487 = true := fun x => mulOk_r (by decide) (by decide)
  have l1 : (0 : Int) < 2147483587 := by decide
  by_cases hk : k < ns.length
  · obtain ⟨j, rfl⟩ : ∃ j : Nat, k = j := ⟨k.toNat, by omega⟩
    have hj : j < ns.length := by omega
    have e : atI (ns.map D.int) (j : Int) = some (.int ns[j]) := atI_nat (by simp [hj])
    have hk' : (j : Int) < ((ns.map D.int).length : Int) := by simpa using hj
    simp only [numberF, numberB, eVar, eC, eBin, eBinR, eB, eTru, eNotT, eOrT, eAndT, eNot, eAnd, eOr, eIf, sSeq, sSet, sIf, sRet, sRetN, sExpr, sNil, sPar, sPar3, sAsg, sAsq, gTu, gCn, gN, gNl, qTu, qCn, qN, qNl, qSub, aCons, aNil, aApp, eTup, eLst, eCel, ofO, ofP, Res.bind, Res.out, Res.bind0, eCb, f1, f2, eCallP, eSl, eSlS, pNone, pSome, sSub, eFld, fnD, fnDC, startD, pick, eChain, eIsi, eProp, noX, eMt, eM0, sFor, iSeq, iRange1, iRange2, eDct0, onlyS, onlyB, addD_int, subD_int, ltD_int, gtD_int, leD_int, geD_int, ixD_tup, ixD_lst, ixD_scr, atI_0, atI_1, atI_2, atI_3, atI_4, atI_5, atI_6, atI_7, atI_8, toIntD_int, truD_bl, List.getElem?_cons_zero, List.getElem?_cons_succ, List.getElem?_nil, List.set_cons_zero, List.set_cons_succ, List.length_cons, List.length_nil, List.map_cons, List.map_nil, List.replicate, List.append_nil, List.nil_append, List.cons_append, List.filterMap_cons, List.filterMap_nil, Nat.sub_self, Nat.zero_add, Nat.reduceAdd, Nat.reduceSub, Option.map_some, Option.map_none, if_true, if_false, ite_true, ite_false, reduceIte, Bool.false_eq_true, Nat.reduceLeDiff, Nat.reduceLT, Int.reduceLE, Int.reduceLT, Int.reduceEq, Nat.reduceBEq, Nat.reduceEqDiff, beq_self_eq_true, Bool.and_self, Bool.and_true, Bool.true_and, Bool.not_true, Bool.not_false, Bool.or_true, Bool.true_or, Bool.false_or, Bool.or_false, Bool.and_false, Bool.false_and, decide_true, decide_false, lenF_scr, decide_eq_true hk', e]
    rw [leave_same rfl]
    exact ⟨_, rfl⟩
  · have hk' : ¬ k < ((ns.map D.int).length : Int) := by simpa using hk
    simp only [numberF, numberB, eVar, eC, eBin, eBinR, eB, eTru, eNotT, eOrT, eAndT, eNot, eAnd, eOr, eIf, sSeq, sSet, sIf, sRet, sRetN, sExpr, sNil, sPar, sPar3, sAsg, sAsq, gTu, gCn, gN, gNl, qTu, qCn, qN, qNl, qSub, aCons, aNil, aApp, eTup, eLst, eCel, ofO, ofP, Res.bind, Res.out, Res.bind0, eCb, f1, f2, eCallP, eSl, eSlS, pNone, pSome, sSub, eFld, fnD, fnDC, startD, pick, eChain, eIsi, eProp, noX, eMt, eM0, sFor, iSeq, iRange1, iRange2, eDct0, onlyS, onlyB, addD_int, subD_int, ltD_int, gtD_int, leD_int, geD_int, ixD_tup, ixD_lst, ixD_scr, atI_0, atI_1, atI_2, atI_3, atI_4, atI_5, atI_6, atI_7, atI_8, toIntD_int, truD_bl, List.getElem?_cons_zero, List.getElem?_cons_succ, List.getElem?_nil, List.set_cons_zero, List.set_cons_succ, List.length_cons, List.length_nil, List.map_cons, List.map_nil, List.replicate, List.append_nil, List.nil_append, List.cons_append, List.filterMap_cons, List.filterMap_nil, Nat.sub_self, Nat.zero_add, Nat.reduceAdd, Nat.reduceSub, Option.map_some, Option.map_none, if_true, if_false, ite_true, ite_false, reduceIte, Bool.false_eq_true, Nat.reduceLeDiff, Nat.reduceLT, Int.reduceLE, Int.reduceLT, Int.reduceEq, Nat.reduceBEq, Nat.reduceEqDiff, beq_self_eq_true, Bool.and_self, Bool.and_true, Bool.true_and, Bool.not_true, Bool.not_false, Bool.or_true, Bool.true_or, Bool.false_or, Bool.or_false, Bool.and_false, Bool.false_and, decide_true, decide_false, lenF_scr, decide_eq_false hk', mulD_int (m1 _), mulD_int m2, mulD_int (m3 _), modD_int l1, slD_scr]
    obtain ⟨ρ1, S1, e, a, b, c, x, rfl, rfl⟩ := loop_inv (g := gN 3) (body := sSet 2 (eBin modD (eCb (f1 toIntD) (aCons (eBin addD (eBin mulD (eVar 2) (eC (.int 40487))) (eVar 3)) aNil)) (eC (.int 2147483587))))
      (fun _ ρ S' => ∃ a b c x, ρ = [a, b, some (.int c), x] ∧ S' = S) (xs := cutD (ns.map D.int) none (some 3)) (k := 0) (ρ := [some (.scr (ns.map D.int)), some (.int k), some (.int (61343 * (k * k + 5 * k + 17) % 2147483587)), none]) (S := S) ⟨_, _, _, _, rfl, rfl⟩ (by
        rintro i x ρ S' hx ⟨a, b, c, y, rfl, rfl⟩
        obtain ⟨z, _, rfl⟩ := List.mem_map.mp (cutD_sub (List.mem_of_getElem? hx))
        refine ⟨_, rfl, ?_⟩
        simp only [eVar, eC, eBin, eBinR, eB, eTru, eNotT, eOrT, eAndT, eNot, eAnd, eOr, eIf, sSeq, sSet, sIf, sRet, sRetN, sExpr, sNil, sPar, sPar3, sAsg, sAsq, gTu, gCn, gN, gNl, qTu, qCn, qN, qNl, qSub, aCons, aNil, aApp, eTup, eLst, eCel, ofO, ofP, Res.bind, Res.out, Res.bind0, eCb, f1, f2, eCallP, eSl, eSlS, pNone, pSome, sSub, eFld, fnD, fnDC, startD, pick, eChain, eIsi, eProp, noX, eMt, eM0, sFor, iSeq, iRange1, iRange2, eDct0, onlyS, onlyB, addD_int, subD_int, ltD_int, gtD_int, leD_int, geD_int, ixD_tup, ixD_lst, ixD_scr, atI_0, atI_1, atI_2, atI_3, atI_4, atI_5, atI_6, atI_7, atI_8, toIntD_int, truD_bl, List.getElem?_cons_zero, List.getElem?_cons_succ, List.getElem?_nil, List.set_cons_zero, List.set_cons_succ, List.length_cons, List.length_nil, List.map_cons, List.map_nil, List.replicate, List.append_nil, List.nil_append, List.cons_append, List.filterMap_cons, List.filterMap_nil, Nat.sub_self, Nat.zero_add, Nat.reduceAdd, Nat.reduceSub, Option.map_some, Option.map_none, if_true, if_false, ite_true, ite_false, reduceIte, Bool.false_eq_true, Nat.reduceLeDiff, Nat.reduceLT, Int.reduceLE, Int.reduceLT, Int.reduceEq, Nat.reduceBEq, Nat.reduceEqDiff, beq_self_eq_true, Bool.and_self, Bool.and_true, Bool.true_and, Bool.not_true, Bool.not_false, Bool.or_true, Bool.true_or, Bool.false_or, Bool.or_false, Bool.and_false, Bool.false_and, decide_true, decide_false, mulD_int (m4 _), modD_int l1]
        exact ⟨_, _, .inl rfl, _, _, _, _, rfl, rfl⟩)
    rw [e]
    simp only [eVar, eC, eBin, eBinR, eB, eTru, eNotT, eOrT, eAndT, eNot, eAnd, eOr, eIf, sSeq, sSet, sIf, sRet, sRetN, sExpr, sNil, sPar, sPar3, sAsg, sAsq, gTu, gCn, gN, gNl, qTu, qCn, qN, qNl, qSub, aCons, aNil, aApp, eTup, eLst, eCel, ofO, ofP, Res.bind, Res.out, Res.bind0, eCb, f1, f2, eCallP, eSl, eSlS, pNone, pSome, sSub, eFld, fnD, fnDC, startD, pick, eChain, eIsi, eProp, noX, eMt, eM0, sFor, iSeq, iRange1, iRange2, eDct0, onlyS, onlyB, addD_int, subD_int, ltD_int, gtD_int, leD_int, geD_int, ixD_tup, ixD_lst, ixD_scr, atI_0, atI_1, atI_2, atI_3, atI_4, atI_5, atI_6, atI_7, atI_8, toIntD_int, truD_bl, List.getElem?_cons_zero, List.getElem?_cons_succ, List.getElem?_nil, List.set_cons_zero, List.set_cons_succ, List.length_cons, List.length_nil, List.map_cons, List.map_nil, List.replicate, List.append_nil, List.nil_append, List.cons_append, List.filterMap_cons, List.filterMap_nil, Nat.sub_self, Nat.zero_add, Nat.reduceAdd, Nat.reduceSub, Option.map_some, Option.map_none, if_true, if_false, ite_true, ite_false, reduceIte, Bool.false_eq_true, Nat.reduceLeDiff, Nat.reduceLT, Int.reduceLE, Int.reduceLT, Int.reduceEq, Nat.reduceBEq, Nat.reduceEqDiff, beq_self_eq_true, Bool.and_self, Bool.and_true, Bool.true_and, Bool.not_true, Bool.not_false, Bool.or_true, Bool.true_or, Bool.false_or, Bool.or_false, Bool.and_false, Bool.false_and, decide_true, decide_false]
    rw [leave_same rfl]
    exact ⟨_, rfl⟩

def purseB : EvS :=
    (sSeq (sSet 1 (eIf (eOrT (eB (eBin ltD (eVar 0) (eC (.int 0)))) (eB (eBin geD (eVar 0) (eBin powD (eC (.int 10)) (eC (.int 18)))))) (eCb (f1 absD) (aCons (eVar 0) aNil)) (eC (.int 0))))
    (sRet (eCel (aCons (eBin modD (eCb (f1 toIntD) (aCons (eVar 0) aNil)) (eC (.int 2147483629))) (aCons (eVar 1) (aCons (eC (.int 0)) aNil))))))
def purseF : FD := fnDC 2 purseB

theorem powD_int {S : Store} {a b : Int} (h : 0 ≤ b ∧ b ≤ 1000000 ∧ a.natAbs < 2 ^ 64) : powD S (.int a) (.int b) = some (.int (a ^ b.toNat)) := by
  show (if _ then _ else _) = _
  rw [if_pos h]
theorem absD_int {a : Int} : absD (.int a) = some (.int (if a < 0 then -a else a)) := rfl
theorem leaveC_new {S : Store} {xs : List D} (h : nrs S.length xs = true) : leaveC S (.ref S.length) (S ++ [.lst xs]) = .ok (.ref S.length, S ++ [.lst xs]) := by
  unfold leaveC
  simp [h, oldOk_refl]
theorem purse_spec {S : Store} (x : Int) : ∃ T, purseF [.int x] S = .ok (.ref S.length, T) ∧ PP (S ++ [purse 0 0 0]) S.length T := by
  have l1 : (0 : Int) < 2147483629 := by decide
  have l2 : (0 : Int) ≤ 18 ∧ (18 : Int) ≤ 1000000 ∧ Int.natAbs 10 < 2 ^ 64 := by decide
  have l3 : ∀ y z : Int, [D.int y, D.int z, D.int 0].length ≤ 16777216 := fun _ _ => by simp
  obtain ⟨y, hy, e⟩ : ∃ y : Int, 0 ≤ y ∧ purseF [.int x] S = .ok (.ref S.length, S ++ [purse (x % 2147483629) y 0]) := by
    by_cases h1 : x < 0
    · refine ⟨-x, by omega, ?_⟩
      simp only [purseF, purseB, eVar, eC, eBin, eBinR, eB, eTru, eNotT, eOrT, eAndT, eNot, eAnd, eOr, eIf, sSeq, sSet, sIf, sRet, sRetN, sExpr, sNil, sPar, sPar3, sAsg, sAsq, gTu, gCn, gN, gNl, qTu, qCn, qN, qNl, qSub, aCons, aNil, aApp, eTup, eLst, eCel, ofO, ofP, Res.bind, Res.out, Res.bind0, eCb, f1, f2, eCallP, eSl, eSlS, pNone, pSome, sSub, eFld, fnD, fnDC, startD, pick, eChain, eIsi, eProp, noX, eMt, eM0, sFor, iSeq, iRange1, iRange2, eDct0, onlyS, onlyB, addD_int, subD_int, ltD_int, gtD_int, leD_int, geD_int, ixD_tup, ixD_lst, ixD_scr, atI_0, atI_1, atI_2, atI_3, atI_4, atI_5, atI_6, atI_7, atI_8, toIntD_int, truD_bl, List.getElem?_cons_zero, List.getElem?_cons_succ, List.getElem?_nil, List.set_cons_zero, List.set_cons_succ, List.length_cons, List.length_nil, List.map_cons, List.map_nil, List.replicate, List.append_nil, List.nil_append, List.cons_append, List.filterMap_cons, List.filterMap_nil, Nat.sub_self, Nat.zero_add, Nat.reduceAdd, Nat.reduceSub, Option.map_some, Option.map_none, if_true, if_false, ite_true, ite_false, reduceIte, Bool.false_eq_true, Nat.reduceLeDiff, Nat.reduceLT, Int.reduceLE, Int.reduceLT, Int.reduceEq, Nat.reduceBEq, Nat.reduceEqDiff, beq_self_eq_true, Bool.and_self, Bool.and_true, Bool.true_and, Bool.not_true, Bool.not_false, Bool.or_true, Bool.true_or, Bool.false_or, Bool.or_false, Bool.and_false, Bool.false_and, decide_true, decide_false, decide_eq_true h1, absD_int, if_pos h1, modD_int l1, if_pos (l3 _ _)]
      exact leaveC_new rfl
    · by_cases h2 : (10 : Int) ^ (18 : Int).toNat ≤ x
      · refine ⟨x, by omega, ?_⟩
        simp only [purseF, purseB, eVar, eC, eBin, eBinR, eB, eTru, eNotT, eOrT, eAndT, eNot, eAnd, eOr, eIf, sSeq, sSet, sIf, sRet, sRetN, sExpr, sNil, sPar, sPar3, sAsg, sAsq, gTu, gCn, gN, gNl, qTu, qCn, qN, qNl, qSub, aCons, aNil, aApp, eTup, eLst, eCel, ofO, ofP, Res.bind, Res.out, Res.bind0, eCb, f1, f2, eCallP, eSl, eSlS, pNone, pSome, sSub, eFld, fnD, fnDC, startD, pick, eChain, eIsi, eProp, noX, eMt, eM0, sFor, iSeq, iRange1, iRange2, eDct0, onlyS, onlyB, addD_int, subD_int, ltD_int, gtD_int, leD_int, geD_int, ixD_tup, ixD_lst, ixD_scr, atI_0, atI_1, atI_2, atI_3, atI_4, atI_5, atI_6, atI_7, atI_8, toIntD_int, truD_bl, List.getElem?_cons_zero, List.getElem?_cons_succ, List.getElem?_nil, List.set_cons_zero, List.set_cons_succ, List.length_cons, List.length_nil, List.map_cons, List.map_nil, List.replicate, List.append_nil, List.nil_append, List.cons_append, List.filterMap_cons, List.filterMap_nil, Nat.sub_self, Nat.zero_add, Nat.reduceAdd, Nat.reduceSub, Option.map_some, Option.map_none, if_true, if_false, ite_true, ite_false, reduceIte, Bool.false_eq_true, Nat.reduceLeDiff, Nat.reduceLT, Int.reduceLE, Int.reduceLT, Int.reduceEq, Nat.reduceBEq, Nat.reduceEqDiff, beq_self_eq_true, Bool.and_self, Bool.and_true, Bool.true_and, Bool.not_true, Bool.not_false, Bool.or_true, Bool.true_or, Bool.false_or, Bool.or_false, Bool.and_false, Bool.false_and, decide_true, decide_false, decide_eq_false h1, powD_int l2, decide_eq_true h2, absD_int, if_neg h1, modD_int l1, if_pos (l3 _ _)]
        exact leaveC_new rfl
      · refine ⟨0, by omega, ?_⟩
        simp only [purseF, purseB, eVar, eC, eBin, eBinR, eB, eTru, eNotT, eOrT, eAndT, eNot, eAnd, eOr, eIf, sSeq, sSet, sIf, sRet, sRetN, sExpr, sNil, sPar, sPar3, sAsg, sAsq, gTu, gCn, gN, gNl, qTu, qCn, qN, qNl, qSub, aCons, aNil, aApp, eTup, eLst, eCel, ofO, ofP, Res.bind, Res.out, Res.bind0, eCb, f1, f2, eCallP, eSl, eSlS, pNone, pSome, sSub, eFld, fnD, fnDC, startD, pick, eChain, eIsi, eProp, noX, eMt, eM0, sFor, iSeq, iRange1, iRange2, eDct0, onlyS, onlyB, addD_int, subD_int, ltD_int, gtD_int, leD_int, geD_int, ixD_tup, ixD_lst, ixD_scr, atI_0, atI_1, atI_2, atI_3, atI_4, atI_5, atI_6, atI_7, atI_8, toIntD_int, truD_bl, List.getElem?_cons_zero, List.getElem?_cons_succ, List.getElem?_nil, List.set_cons_zero, List.set_cons_succ, List.length_cons, List.length_nil, List.map_cons, List.map_nil, List.replicate, List.append_nil, List.nil_append, List.cons_append, List.filterMap_cons, List.filterMap_nil, Nat.sub_self, Nat.zero_add, Nat.reduceAdd, Nat.reduceSub, Option.map_some, Option.map_none, if_true, if_false, ite_true, ite_false, reduceIte, Bool.false_eq_true, Nat.reduceLeDiff, Nat.reduceLT, Int.reduceLE, Int.reduceLT, Int.reduceEq, Nat.reduceBEq, Nat.reduceEqDiff, beq_self_eq_true, Bool.and_self, Bool.and_true, Bool.true_and, Bool.not_true, Bool.not_false, Bool.or_true, Bool.true_or, Bool.false_or, Bool.or_false, Bool.and_false, Bool.false_and, decide_true, decide_false, decide_eq_false h1, powD_int l2, decide_eq_false h2, absD_int, if_neg h1, modD_int l1, if_pos (l3 _ _)]
        exact leaveC_new rfl
  refine ⟨_, e, by simp, x % 2147483629, y, 0, ?_, Int.emod_nonneg _ (by omega), Int.emod_lt_of_pos _ (by omega), hy⟩
  simp

/-! ### what is left of data without cells -/
mutual
theorem fzF_flat {rec : D → Option D} {S : Store} {k : Nat} : ∀ d : D, nr k d = true → fzF rec S k d = some d
  | .non, _ => rfl
  | .bl _, _ => rfl
  | .int _, _ => rfl
  | .str _, _ => rfl
  | .cl _, _ => rfl
  | .tup a, h => by simp only [fzF, fzFs_flat a (by simpa only [nr] using h), Option.map_some]
  | .lst a, h => by simp only [fzF, fzFs_flat a (by simpa only [nr] using h), Option.map_some]
  | .scr a, h => by simp only [fzF, fzFs_flat a (by simpa only [nr] using h), Option.map_some]
  | .ins c a, h => by simp only [fzF, fzFf_flat a (by simpa only [nr] using h), Option.map_some]
  | .dct a, h => by simp only [fzF, fzFk_flat a (by simpa only [nr] using h), Option.map_some]
  | .ext c a, h => by simp only [fzF, fzFs_flat a (by simpa only [nr] using h), Option.map_some]
  | .exn c a, h => by simp only [fzF, fzFf_flat a (by simpa only [nr] using h), Option.map_some]
  | .ref n, h => by
    simp only [nr] at h
    simp only [fzF, if_pos (of_decide_eq_true h)]
theorem fzFs_flat {rec : D → Option D} {S : Store} {k : Nat} : ∀ d : List D, nrs k d = true → fzFs rec S k d = some d
  | [], _ => rfl
  | a :: r, h => by
    simp only [nrs, Bool.and_eq_true] at h
    simp only [fzFs, fzF_flat a h.1, fzFs_flat r h.2]
theorem fzFf_flat {rec : D → Option D} {S : Store} {k : Nat} : ∀ d : List (Nat × D), nrf k d = true → fzFf rec S k d = some d
  | [], _ => rfl
  | (i, a) :: r, h => by
    simp only [nrf, Bool.and_eq_true] at h
    simp only [fzFf, fzF_flat a h.1, fzFf_flat r h.2]
theorem fzFk_flat {rec : D → Option D} {S : Store} {k : Nat} : ∀ d : List (Key × D), nrk k d = true → fzFk rec S k d = some d
  | [], _ => rfl
  | (i, a) :: r, h => by
    simp only [nrk, Bool.and_eq_true] at h
    simp only [fzFk, fzF_flat a h.1, fzFk_flat r h.2]
end
theorem fz_flat {S : Store} {k n : Nat} {d : D} (h : nr k d = true) : fz S k n d = some d := by
  cases n <;> exact fzF_flat d h
theorem mapM_flat {S : Store} {k n : Nat} : ∀ {xs : List D}, nrs k xs = true → xs.mapM (fz S k n) = some xs
  | [], _ => rfl
  | a :: r, h => by
    simp only [nrs, Bool.and_eq_true] at h
    rw [List.mapM_cons, fz_flat h.1, mapM_flat h.2]
    rfl
theorem mapMf_flat {S : Store} {k n : Nat} : ∀ {xs : List (Nat × D)}, nrf k xs = true → (xs.mapM fun p => (fz S k n p.2).map fun d => (p.1, d)) = some xs
  | [], _ => rfl
  | (i, a) :: r, h => by
    simp only [nrf, Bool.and_eq_true] at h
    rw [List.mapM_cons, fz_flat h.1, mapMf_flat h.2]
    rfl
theorem get_end {α : Type} {T : List α} {L : Nat} {c : α} {X : List α} (h : T.length = L) : (T ++ c :: X)[L]? = some c := by
  subst h
  simp
theorem set_end {α : Type} {T : List α} {L : Nat} {c d : α} {X : List α} (h : T.length = L) : (T ++ c :: X).set L d = T ++ d :: X := by
  subst h
  simp
/-- a def ends with what has no cells, some cells are left -/
theorem leave_flat {S T X : Store} {d : D} (hl : T.length = S.length) (hx : X ≠ []) (ho : oldOk S.length S (T ++ X) = true) (hf : nr S.length d = true) : leave S d (T ++ X) = .ok (d, T) :=
  leave_new hl hx ho (fz_flat hf)
theorem fz_list {S : Store} {k n m : Nat} {xs : List D} (hn : k ≤ m) (e : S[m]? = some (.lst xs)) (hf : nrs k xs = true) : fz S k (n + 1) (.ref m) = some (.lst xs) := by
  show fzF (fz S k n) S k (.ref m) = _
  simp only [fzF, if_neg (show ¬ m < k by omega), e, mapM_flat hf, Option.map_some]
theorem fz_ins {S : Store} {k n m c : Nat} {fs : List (Nat × D)} (hn : k ≤ m) (e : S[m]? = some (.ins c fs)) (hf : nrf k fs = true) : fz S k (n + 1) (.ref m) = some (.ins c fs) := by
  show fzF (fz S k n) S k (.ref m) = _
  simp only [fzF, if_neg (show ¬ m < k by omega), e, mapMf_flat hf, Option.map_some]
/-- a new list, a new object is left -/
theorem leave_list {S T : Store} {xs : List D} {L : Nat} (hL : S.length = L) (hl : T.length = S.length) (ho : oldOk S.length S (T ++ [.lst xs]) = true) (hf : nrs S.length xs = true) : leave S (.ref L) (T ++ [.lst xs]) = .ok (.lst xs, T) :=
  leave_new hl (by simp) ho (fz_list (by omega) (get_end (by omega)) hf)
theorem leave_ins {S T : Store} {c : Nat} {fs : List (Nat × D)} {L : Nat} (hL : S.length = L) (hl : T.length = S.length) (ho : oldOk S.length S (T ++ [.ins c fs]) = true) (hf : nrf S.length fs = true) : leave S (.ref L) (T ++ [.ins c fs]) = .ok (.ins c fs, T) :=
  leave_new hl (by simp) ho (fz_ins (by omega) (get_end (by omega)) hf)
/-- picks where more cells are -/
theorem pick_app {S T : Store} {n : Nat} {many : Int} (X : Store) (h : PP S n T) (h1 : 1 ≤ many) (h2 : many < 1073741824) : ∃ k T', pickF [.ref n, .int many] (T ++ X) = .ok (.int k, T' ++ X) ∧ 0 ≤ k ∧ k < many ∧ PP S n T' := by
  obtain ⟨k, T', e, a, b, c⟩ := pick_spec (h.app X) h1 h2
  obtain ⟨T0, rfl, h0⟩ := c.unapp h.1
  exact ⟨k, T0, e, a, b, h0⟩
theorem slen_app (a b : Str) : (a ++ b).length = a.length + b.length := by
  show (a.cps ++ b.cps).size = _
  simp [Str.length]
theorem sempty_app (a : Str) : Str.empty ++ a = a := by
  show Str.append _ _ = _
  simp [Str.append, Str.empty]
theorem sapp_assoc (a b c : Str) : a ++ b ++ c = a ++ (b ++ c) := by
  show Str.append (Str.append _ _) _ = Str.append _ (Str.append _ _)
  simp [Str.append]
def istr (i : Int) : Str := Str.ofString (toString i)
theorem strD_int {i : Int} (h : i.natAbs.log2 < 1920) : strD (.int i) = some (.str (istr i)) := by
  show (if _ then _ else _) = _
  rw [if_pos h]
  rfl
theorem strD_str {a : Str} : strD (.str a) = some (.str a) := rfl

theorem isT_lst {S : Store} {xs : List D} : isT "list" S (.lst xs) = true := rfl
theorem isT_str {S : Store} {a : Str} : isT "str" S (.str a) = true := rfl
theorem isT_ref {S : Store} {n : Nat} {xs : List D} (h : S[n]? = some (.lst xs)) : isT "list" S (.ref n) = true := by
  simp [isT, seqL, h]
theorem appendF_ref {S : Store} {n : Nat} {xs : List D} {y : D} (h : S[n]? = some (.lst xs)) (hl : xs.length < 16777216) : appendF S (.ref n) [y] = some (.non, S.set n (.lst (xs ++ [y]))) := by
  simp only [appendF, h]
  rw [if_pos (show xs.length < sizeLine by rw [show sizeLine = 16777216 from rfl]; exact hl)]

section
variable {S : Store}
theorem fldsD_int {i : Int} : fldsD S (.int i) = none := rfl
theorem fldsD_str {a : Str} : fldsD S (.str a) = none := rfl
theorem fldsD_bl {a : Bool} : fldsD S (.bl a) = none := rfl
theorem fldsD_non : fldsD S .non = none := rfl
theorem fldsD_lst {a : List D} : fldsD S (.lst a) = none := rfl
theorem fldsD_tup {a : List D} : fldsD S (.tup a) = none := rfl
theorem fldsD_scr {a : List D} : fldsD S (.scr a) = none := rfl
theorem fldsD_dct {a : List (Key × D)} : fldsD S (.dct a) = none := rfl
theorem fldsD_ins {c : Nat} {a : List (Nat × D)} : fldsD S (.ins c a) = some (c, a) := rfl
theorem kdD_int {i : Int} : kdD S (.int i) = some .int := rfl
theorem kdD_str {a : Str} : kdD S (.str a) = some .str := rfl
theorem kdD_bl {a : Bool} : kdD S (.bl a) = some .bl := rfl
theorem kdD_non : kdD S .non = some .non := rfl
theorem kdD_lst {a : List D} : kdD S (.lst a) = some .lst := rfl
theorem kdD_tup {a : List D} : kdD S (.tup a) = some .tup := rfl
theorem kdD_scr {a : List D} : kdD S (.scr a) = some .lst := rfl
theorem kdD_dct {a : List (Key × D)} : kdD S (.dct a) = some .dct := rfl
theorem kdD_ins {c : Nat} {a : List (Nat × D)} : kdD S (.ins c a) = some (.ins c) := rfl
theorem seqA_lst {a : List D} : seqA S (.lst a) = some a := rfl
theorem seqA_tup {a : List D} : seqA S (.tup a) = some a := rfl
theorem seqA_scr {a : List D} : seqA S (.scr a) = some a := rfl
theorem seqL_lst {a : List D} : seqL S (.lst a) = some a := rfl
theorem seqL_scr {a : List D} : seqL S (.scr a) = some a := rfl
theorem listF_lst {a : List D} : listF S [.lst a] = some (.lst a, S) := rfl
theorem listF_tup {a : List D} : listF S [.tup a] = some (.lst a, S) := rfl
theorem listC_lst {a : List D} : listC S [.lst a] = some (.ref S.length, S ++ [.lst a]) := rfl
theorem listC_tup {a : List D} : listC S [.tup a] = some (.ref S.length, S ++ [.lst a]) := rfl
theorem tupleF_lst {a : List D} : tupleF S [.lst a] = some (.tup a, S) := rfl
theorem tupleF_tup {a : List D} : tupleF S [.tup a] = some (.tup a, S) := rfl
theorem eqD_int {a b : Int} : eqD S (.int a) (.int b) = some (.bl (a == b)) := rfl
theorem shaped_str {a : Str} (h : PyData.strOk a = true) : SeqAt.shaped (.str a) = true := by
  simp [SeqAt.shaped, PyData.canLay0, PyData.depth, h]
theorem eqD_str {a b : Str} (ha : PyData.strOk a = true) (hb : PyData.strOk b = true) : eqD S (.str a) (.str b) = some (.bl (a == b)) := by
  show (if _ then _ else _) = _
  rw [if_pos (by rw [shaped_str ha, shaped_str hb]; rfl)]
  simp [PyData.eqv]
theorem eqD_bl {a b : Bool} : eqD S (.bl a) (.bl b) = some (.bl (a == b)) := rfl
theorem neD_int {a b : Int} : neD S (.int a) (.int b) = some (.bl (!(a == b))) := rfl
theorem neD_str {a b : Str} (ha : PyData.strOk a = true) (hb : PyData.strOk b = true) : neD S (.str a) (.str b) = some (.bl (!(a == b))) := by
  show (if _ then _ else _) = _
  rw [if_pos (by rw [shaped_str ha, shaped_str hb]; rfl)]
  simp [PyData.eqv]
theorem isN_non : isN S .non .non = some (.bl true) := rfl
theorem isN_int {i : Int} : isN S (.int i) .non = some (.bl false) := rfl
theorem isN_tup {a : List D} : isN S (.tup a) .non = some (.bl false) := rfl
theorem fmt_int {i : Int} (h : i.natAbs.log2 < 1920) {ρ : Slots} {f : EvE} (e : f ρ S = .ok (.int i, S)) : eFmt f ρ S = .ok (.str (istr i), S) := by
  simp only [eFmt, e, Res.bind, if_pos h]
  rfl
end
theorem strOk_app {a b : Str} (ha : PyData.strOk a = true) (hb : PyData.strOk b = true) : PyData.strOk (a ++ b) = true := by
  show Array.all (a.cps ++ b.cps) _ = true
  simp only [Array.all_append, Bool.and_eq_true]
  exact ⟨ha, hb⟩
def eJsK (fs : List EvE) (acc : Str) (ρ : Slots) : D × Store → Res (D × Store)
  | (.str y, S) => if (acc ++ y).length ≤ sizeLine then eJs fs (acc ++ y) ρ S else .bad
  | _ => .bad
theorem eJs_nil {acc : Str} {ρ : Slots} {S : Store} : eJs [] acc ρ S = .ok (.str acc, S) := rfl
theorem eJs_cons {f : EvE} {fs : List EvE} {acc : Str} {ρ : Slots} {S : Store} : eJs (f :: fs) acc ρ S = (f ρ S).bind (eJsK fs acc ρ) := by
  simp only [eJs]
  cases f ρ S with
  | ok p =>
    obtain ⟨d, S'⟩ := p
    cases d <;> rfl
  | _ => rfl
theorem eJsK_str {fs : List EvE} {acc y : Str} {ρ : Slots} {S : Store} (h : (acc ++ y).length ≤ 16777216) : eJsK fs acc ρ (.str y, S) = eJs fs (acc ++ y) ρ S := by
  show (if _ then _ else _) = _
  exact if_pos h
theorem eFmt_int {f : EvE} {ρ : Slots} {S S' : Store} {i : Int} (e : f ρ S = .ok (.int i, S')) (h : i.natAbs.log2 < 1920) : eFmt f ρ S = .ok (.str (istr i), S') := by
  simp only [eFmt, e, Res.bind, if_pos h]
  rfl
def fmtK : D × Store → Res (D × Store)
  | (.str y, S) => if y.length ≤ sizeLine then .ok (.str y, S) else .bad
  | (.int i, S) => if i.natAbs.log2 < 1920 then .ok (.str (istr i), S) else .bad
  | _ => .bad
theorem eFmt_eq {f : EvE} {ρ : Slots} {S : Store} : eFmt f ρ S = (f ρ S).bind fmtK := by
  unfold eFmt
  cases f ρ S with
  | ok p =>
    obtain ⟨d, S'⟩ := p
    cases d <;> rfl
  | _ => rfl
theorem fmtK_str {y : Str} {S : Store} (h : y.length ≤ 16777216) : fmtK (.str y, S) = .ok (.str y, S) := by
  show (if _ then _ else _) = _
  exact if_pos h
theorem fmtK_int {i : Int} {S : Store} (h : i.natAbs.log2 < 1920) : fmtK (.int i, S) = .ok (.str (istr i), S) := by
  show (if _ then _ else _) = _
  rw [if_pos h]
theorem slen_empty : Str.length Str.empty = 0 := rfl
end Pd
end
section
/-! Pd, part Z: texts. -/
namespace Pd
open PySem PySem.Spec PyProof.Rows L2

theorem strOk_iff {x : Str} : PyData.strOk x = true ↔ ∀ c ∈ x.cps.toList, c < 0x110000 := by
  unfold PyData.strOk
  rw [← Array.all_toList, List.all_eq_true]
  simp
theorem char_lt (c : Char) : c.toNat < 0x110000 := by
  have := c.valid
  rcases this with h | h
  · have : c.toNat = c.val.toNat := rfl
    omega
  · have : c.toNat = c.val.toNat := rfl
    omega
theorem strOk_lit (s : String) : PyData.strOk (Str.ofString s) = true := by
  rw [strOk_iff, signs_ofString]
  intro c hc
  obtain ⟨d, _, rfl⟩ := List.mem_map.mp hc
  exact char_lt d
theorem strOk_istr (i : Int) : PyData.strOk (istr i) = true := strOk_lit _
theorem reprChar_ok {q c : Nat} (hq : q < 0x110000) (hc : c < 0x110000) : ∀ k ∈ Builtin.Str.reprChar q c, k < 0x110000 := by
  intro k hk
  unfold Builtin.Str.reprChar at hk
  have hx : ∀ w, ∀ k ∈ (List.replicate (w - ((Nat.toDigits 16 c).map Char.toNat).length) 48 ++ (Nat.toDigits 16 c).map Char.toNat), k < 0x110000 := by
    intro w k hk
    rcases List.mem_append.mp hk with h | h
    · have := List.eq_of_mem_replicate h; omega
    · obtain ⟨d, _, rfl⟩ := List.mem_map.mp h
      exact char_lt d
  simp only at hk
  split at hk
  · simp at hk; rcases hk with rfl | rfl <;> omega
  split at hk
  · simp at hk; rcases hk with rfl | rfl <;> omega
  split at hk
  · simp at hk; rcases hk with rfl | rfl <;> omega
  split at hk
  · simp at hk; rcases hk with rfl | rfl <;> omega
  split at hk
  · simp at hk; omega
  split at hk
  · rcases List.mem_append.mp hk with h | h
    · simp at h; rcases h with rfl | rfl <;> omega
    · exact hx _ _ h
  split at hk
  · rcases List.mem_append.mp hk with h | h
    · simp at h; rcases h with rfl | rfl <;> omega
    · exact hx _ _ h
  · rcases List.mem_append.mp hk with h | h
    · simp at h; rcases h with rfl | rfl <;> omega
    · exact hx _ _ h
theorem foldl_repr_ok {q : Nat} (hq : q < 0x110000) : ∀ (l : List Nat) (acc : Array Nat), (∀ c ∈ l, c < 0x110000) → (∀ c ∈ acc.toList, c < 0x110000) → ∀ c ∈ (l.foldl (fun out c => out ++ (Builtin.Str.reprChar q c).toArray) acc).toList, c < 0x110000
  | [], acc, _, h => h
  | c :: r, acc, hl, h => by
    rw [List.foldl_cons]
    refine foldl_repr_ok hq r _ (fun d hd => hl d (List.mem_cons_of_mem _ hd)) fun d hd => ?_
    rw [Array.toList_append] at hd
    rcases List.mem_append.mp hd with z | z
    · exact h d z
    · exact reprChar_ok hq (hl c (List.mem_cons_self ..)) d z
theorem strOk_repr {x : Str} (h : PyData.strOk x = true) : PyData.strOk (reprText x) = true := by
  rw [strOk_iff] at h ⊢
  have hq : reprQuote x < 0x110000 := by unfold reprQuote; split <;> omega
  intro c hc
  unfold reprText at hc
  rw [Array.toList_push] at hc
  rcases List.mem_append.mp hc with z | z
  · rw [← Array.foldl_toList] at z
    exact foldl_repr_ok hq _ _ h (by intro d hd; simp at hd; omega) c z
  · simp at z; omega
theorem strOk_join {sep : Str} (hs : PyData.strOk sep = true) {ts : List Str} (h : ∀ t ∈ ts, PyData.strOk t = true) : PyData.strOk (Str.join sep ts) = true := by
  rw [strOk_iff]
  intro c hc
  rcases (mem_join sep c ts).mp hc with ⟨t, ht, z⟩ | ⟨_, z⟩
  · exact strOk_iff.mp (h t ht) c z
  · exact strOk_iff.mp hs c z
mutual
theorem strOk_shown : ∀ p : PyData, p.canLay0 = true → PyData.strOk p.shown = true
  | .none, _ => by rw [PyData.shown_none]; exact strOk_lit _
  | .bool b, _ => by rw [PyData.shown_bool]; cases b <;> exact strOk_lit _
  | .int i, _ => by rw [PyData.shown_int]; exact strOk_lit _
  | .str x, h => by rw [PyData.shown_str]; exact strOk_repr (by simpa only [PyData.canLay0] using h)
  | .list xs, h => by
    rw [PyData.shown_list]
    exact strOk_app (strOk_app (strOk_lit _) (strOk_join (strOk_lit _) (strOk_shownAll xs (by simpa only [PyData.canLay0] using h)))) (strOk_lit _)
  | .tuple xs, h => by
    rw [PyData.shown_tuple]
    refine strOk_app (strOk_app (strOk_lit _) (strOk_join (strOk_lit _) (strOk_shownAll xs (by simpa only [PyData.canLay0] using h)))) ?_
    exact strOk_lit _
  | .dict _, h => by simp [PyData.canLay0] at h
theorem strOk_shownAll : ∀ ps : List PyData, PyData.canLayAll0 ps = true → ∀ t ∈ PyData.shownAll ps, PyData.strOk t = true
  | [], _, t, ht => by rw [PyData.shownAll_nil] at ht; cases ht
  | x :: r, h, t, ht => by
    simp only [PyData.canLayAll0, Bool.and_eq_true] at h
    rw [PyData.shownAll_cons, List.mem_cons] at ht
    rcases ht with rfl | ht
    · exact strOk_shown x h.1
    · exact strOk_shownAll r h.2 t ht
end
mutual
theorem noDict_of : ∀ p : PyData, p.canLay0 = true → p.hasDict = false
  | .none, _ => rfl
  | .bool b, _ => rfl
  | .int i, _ => rfl
  | .str x, h => rfl
  | .list xs, h => by simp only [PyData.hasDict]; exact noDictAll_of xs (by simpa only [PyData.canLay0] using h)
  | .tuple xs, h => by simp only [PyData.hasDict]; exact noDictAll_of xs (by simpa only [PyData.canLay0] using h)
  | .dict _, h => by simp [PyData.canLay0] at h
theorem noDictAll_of : ∀ ps : List PyData, PyData.canLayAll0 ps = true → PyData.hasDictAll ps = false
  | [], _ => rfl
  | x :: r, h => by
    simp only [PyData.canLayAll0, Bool.and_eq_true] at h
    simp only [PyData.hasDictAll, noDict_of x h.1, noDictAll_of r h.2, Bool.or_self]
end
/-- what is shown without ado -/
def Sh (p : PyData) : Prop := p.canLay0 = true ∧ p.depth ≤ 60 ∧ p.weight ≤ 2 ^ 20 ∧ p.intsShort 13 = true ∧ p.showable = true
theorem reprF_sh {S : Store} {d : D} {p : PyData} (e : py S 4 d = some p) (h : Sh p) : reprF S [d] = some (.str p.shown, S) := by
  obtain ⟨h1, h2, h3, h4, h5⟩ := h
  have hl : p.shown.length ≤ sizeLine := by
    have := shown_le13 (d := p) (by simp [PyData.layable0, h1, h3, show p.depth ≤ 64 by omega]) h4
    rw [show sizeLine = 16777216 from rfl]
    omega
  have nd : d ≠ .dct [] := fun z => by subst z; cases e
  unfold reprF
  split
  · rename_i q
    cases q
    exact absurd rfl nd
  · rename_i q
    cases q
    simp [e, h5, noDict_of p h1, h2, hl]
  · rename_i q
    exact absurd rfl (q d)
theorem eqD_shown {S : Store} {p : PyData} (h : p.canLay0 = true) : eqD S (.str p.shown) (.str p.shown) = some (.bl true) := by
  rw [eqD_str (strOk_shown p h) (strOk_shown p h), beq_self_eq_true]
theorem neD_shown {S : Store} {p : PyData} (h : p.canLay0 = true) : neD S (.str p.shown) (.str p.shown) = some (.bl false) := by
  rw [neD_str (strOk_shown p h) (strOk_shown p h), beq_self_eq_true]
  rfl
theorem eqD_same {S : Store} {a : Str} (h : PyData.strOk a = true) : eqD S (.str a) (.str a) = some (.bl true) := by
  rw [eqD_str h h, beq_self_eq_true]
theorem neD_same {S : Store} {a : Str} (h : PyData.strOk a = true) : neD S (.str a) (.str a) = some (.bl false) := by
  rw [neD_str h h, beq_self_eq_true]
  rfl
theorem setFD_ref {S : Store} {n c i : Nat} {fs : List (Nat × D)} {d : D} (h : S[n]? = some (.ins c fs)) (hl : fs.length < 1000) : setFD S (.ref n) i d = some (S.set n (.ins c (putN i d fs))) := by
  simp only [setFD, h, if_pos hl]
end Pd
end
section
/-! Pd, part La: what the laws draw: words, names, lots, people, rules. -/
namespace Pd
open PySem PySem.Spec PyProof.Rows L2

/-! ### names -/
def LowC (c : Nat) : Prop := 97 ≤ c ∧ c ≤ 122
def AlC (c : Nat) : Prop := (97 ≤ c ∧ c ≤ 122) ∨ (48 ≤ c ∧ c ≤ 57)
/-- a name: one to eight signs -/
def NameL (l : List Nat) : Prop := ∃ c r, l = c :: r ∧ r.length ≤ 7 ∧ LowC c ∧ ∀ d ∈ r, AlC d
def NameS (s : Str) : Prop := NameL (TL.tl s)
theorem NameS.len {s : Str} (h : NameS s) : 1 ≤ s.length ∧ s.length ≤ 8 := by
  obtain ⟨c, r, e, hr, _⟩ := h
  rw [TL.len_tl, e]
  simp
  omega
theorem NameS.ok {s : Str} (h : NameS s) : PyData.strOk s = true := by
  obtain ⟨c, r, e, _, h1, h2⟩ := h
  rw [strOk_iff]
  intro d hd
  have hd : d ∈ c :: r := by rw [← e]; exact hd
  rcases List.mem_cons.mp hd with rfl | hd
  · have := h1.2; omega
  · rcases h2 d hd with q | q <;> omega
def letters : Str := "abcdefghijklmnopqrstuvwxyz"
def digits : Str := "0123456789"
theorem letters_tl : TL.tl letters = (List.range 26).map (· + 97) := by decide +kernel
theorem signs_tl : TL.tl (letters ++ digits) = (List.range 26).map (· + 97) ++ (List.range 10).map (· + 48) := by decide +kernel
theorem ixD_str {S : Store} {z : Str} {i : Int} (h : z.length ≤ 16777216) : ixD S (.str z) (.int i) = (atI (TL.tl z) i).map fun c => .str ⟨#[c]⟩ := by
  show (if _ then _ else _) = _
  rw [if_pos h]
theorem letter_ix {S : Store} {k : Int} (h0 : 0 ≤ k) (h1 : k < 26) : ∃ c, ixD S (.str letters) (.int k) = some (.str ⟨#[c]⟩) ∧ LowC c := by
  obtain ⟨j, rfl⟩ : ∃ j : Nat, k = j := ⟨k.toNat, by omega⟩
  have hj : j < 26 := by omega
  refine ⟨j + 97, ?_, by unfold LowC; omega⟩
  rw [ixD_str (by decide +kernel), letters_tl, atI_nat (x := j + 97) (by simp [hj])]
  rfl
theorem sign_ix {S : Store} {k : Int} (h0 : 0 ≤ k) (h1 : k < 36) : ∃ c, ixD S (.str (letters ++ digits)) (.int k) = some (.str ⟨#[c]⟩) ∧ AlC c := by
  obtain ⟨j, rfl⟩ : ∃ j : Nat, k = j := ⟨k.toNat, by omega⟩
  have hj : j < 36 := by omega
  have hl : (letters ++ digits).length ≤ 16777216 := by decide +kernel
  by_cases hq : j < 26
  · refine ⟨j + 97, ?_, .inl (by omega)⟩
    rw [ixD_str hl, signs_tl, atI_nat (x := j + 97) (by rw [List.getElem?_append_left (by simpa using hq)]; simp [hq])]
    rfl
  · refine ⟨(j - 26) + 48, ?_, .inr (by omega)⟩
    rw [ixD_str hl, signs_tl, atI_nat (x := (j - 26) + 48) (by rw [List.getElem?_append_right (by simpa using hq)]; simp [show j - 26 < 10 by omega])]
    rfl
theorem tl_one (c : Nat) : TL.tl ⟨#[c]⟩ = [c] := rfl
theorem ln_let : letters.length = 26 := by decide +kernel
theorem ln_dig : digits.length = 10 := by decide +kernel

def wordB : EvS :=
    (sSeq (sSet 1 (eC (.str letters)))
    (sSeq (sSet 2 (eBin addD (eVar 1) (eC (.str digits))))
    (sSeq (sSet 3 (eBin ixD (eVar 1) (eCallP 2 0 pickF [] [0, 1] 2 (aCons (eVar 0) (aCons (eC (.int 26)) aNil)) aNil)))
    (sSeq (sFor (iRange1 (aCons (eCallP 2 0 pickF [] [0, 1] 2 (aCons (eVar 0) (aCons (eC (.int 8)) aNil)) aNil) aNil)) (gN 4) (sSet 3 (eBin addD (eVar 3) (eBin ixD (eVar 2) (eCallP 2 0 pickF [] [0, 1] 2 (aCons (eVar 0) (aCons (eC (.int 36)) aNil)) aNil)))))
    (sRet (eVar 3))))))
def wordF : FD := fnD 5 wordB
theorem rOk_small {i : Int} (h0 : -1000000 ≤ i) (h1 : i ≤ 1000000) : rOk i = true := by
  unfold rOk; exact decide_eq_true ⟨by omega, by omega⟩
theorem iRange1_eq {g : EvA} {ρ : Slots} {S S' : Store} {i : Int} (e : g ρ S = .ok ([.int i], S')) (h0 : -1000000 ≤ i) (h1 : i ≤ 1000000) : iRange1 g ρ S = .ok (rangeD 0 i.toNat, S') := by
  simp only [iRange1, e, Res.bind, if_pos (rOk_small h0 h1)]
theorem word_spec {S T : Store} {n : Nat} (h : PP S n T) : ∃ s T', wordF [.ref n] T = .ok (.str s, T') ∧ NameS s ∧ PP S n T' := by
  obtain ⟨k1, T1, e1, a1, b1, h1⟩ := pick_spec (many := 26) h (by omega) (by omega)
  obtain ⟨c, ec, hc⟩ := letter_ix (S := T1) a1 b1
  obtain ⟨k2, T2, e2, a2, b2, h2⟩ := pick_spec (many := 8) h1 (by omega) (by omega)
  obtain ⟨j, rfl⟩ : ∃ j : Nat, k2 = j := ⟨k2.toNat, by omega⟩
  have hj : (letters ++ digits).length ≤ 16777216 := by decide +kernel
  obtain ⟨ρ1, T3, e3, s, r4, rfl, h3, r, es, hl, hr⟩ := loop_inv (g := gN 4) (body := (sSet 3 (eBin addD (eVar 3) (eBin ixD (eVar 2) (eCallP 2 0 pickF [] [0, 1] 2 (aCons (eVar 0) (aCons (eC (.int 36)) aNil)) aNil)))))
    (fun i ρ Z => ∃ s r4, ρ = [some (.ref n), some (.str letters), some (.str (letters ++ digits)), some (.str s), r4] ∧ PP S n Z ∧ ∃ r, TL.tl s = c :: r ∧ r.length ≤ i ∧ ∀ d ∈ r, AlC d) (xs := rangeD 0 j) (k := 0)
    (ρ := [some (.ref n), some (.str letters), some (.str (letters ++ digits)), some (.str ⟨#[c]⟩), none]) (S := T2) ⟨_, _, rfl, h2, [], rfl, by simp, by simp⟩ (by
      rintro i x ρ Z hx ⟨s, r4, rfl, hZ, r, es, hl, hr⟩
      have hi := (rangeD_get hx).2
      obtain ⟨k5, T5, e5, a5, b5, h5⟩ := pick_spec (many := 36) hZ (by omega) (by omega)
      obtain ⟨c', ec', hc'⟩ := sign_ix (S := T5) a5 b5
      have ls : s.length = r.length + 1 := by rw [TL.len_tl, es]; simp
      have l1 : Str.length ⟨#[c']⟩ = 1 := rfl
      refine ⟨_, rfl, ?_⟩
      simp only [eVar, eC, eBin, eBinR, eB, eTru, eNotT, eOrT, eAndT, eNot, eAnd, eOr, eIf, sSeq, sSet, sIf, sRet, sRetN, sExpr, sNil, sPar, sPar3, sAsg, sAsq, gTu, gCn, gN, gNl, qTu, qCn, qN, qNl, qSub, aCons, aNil, aApp, eTup, eLst, eCel, ofO, ofP, Res.bind, Res.out, Res.bind0, eCb, f1, f2, eCallP, eSl, eSlS, pNone, pSome, sSub, eFld, fnD, fnDC, startD, pick, eChain, eIsi, eProp, noX, eMt, eM0, sFor, iSeq, iRange1, iRange2, eDct0, onlyS, onlyB, addD_int, subD_int, ltD_int, gtD_int, leD_int, geD_int, ixD_tup, ixD_lst, ixD_scr, atI_0, atI_1, atI_2, atI_3, atI_4, atI_5, atI_6, atI_7, atI_8, toIntD_int, truD_bl, List.getElem?_cons_zero, List.getElem?_cons_succ, List.getElem?_nil, List.set_cons_zero, List.set_cons_succ, List.length_cons, List.length_nil, List.map_cons, List.map_nil, List.replicate, List.append_nil, List.nil_append, List.cons_append, List.filterMap_cons, List.filterMap_nil, Nat.sub_self, Nat.zero_add, Nat.reduceAdd, Nat.reduceSub, Option.map_some, Option.map_none, if_true, if_false, ite_true, ite_false, reduceIte, Bool.false_eq_true, Nat.reduceLeDiff, Nat.reduceLT, Int.reduceLE, Int.reduceLT, Int.reduceEq, Nat.reduceBEq, Nat.reduceEqDiff, beq_self_eq_true, Bool.and_self, Bool.and_true, Bool.true_and, Bool.not_true, Bool.not_false, Bool.or_true, Bool.true_or, Bool.false_or, Bool.or_false, Bool.and_false, Bool.false_and, decide_true, decide_false, e5, ec', addD_str (show s.length + Str.length ⟨#[c']⟩ ≤ 16777216 by omega)]
      refine ⟨_, _, .inl rfl, _, _, rfl, h5, r ++ [c'], ?_, by simp; omega, ?_⟩
      · rw [TL.tl_append, es, tl_one]; simp
      · intro d hd
        rcases List.mem_append.mp hd with q | q
        · exact hr d q
        · rw [List.mem_singleton.mp q]; exact hc')
  refine ⟨s, T3, ?_, ⟨c, r, es, by simp [rangeD_len] at hl; omega, hc, hr⟩, h3⟩
  have er : iRange1 (aCons (eCallP 2 0 pickF [] [0, 1] 2 (aCons (eVar 0) (aCons (eC (.int 8)) aNil)) aNil) aNil) [some (.ref n), some (.str letters), some (.str (letters ++ digits)), some (.str ⟨#[c]⟩), none] T1 = .ok (rangeD 0 j, T2) := by
    have := iRange1_eq (g := aCons (eCallP 2 0 pickF [] [0, 1] 2 (aCons (eVar 0) (aCons (eC (.int 8)) aNil)) aNil) aNil) (ρ := [some (.ref n), some (.str letters), some (.str (letters ++ digits)), some (.str ⟨#[c]⟩), none]) (S := T1) (S' := T2) (i := j) (by simp only [eVar, eC, eBin, eBinR, eB, eTru, eNotT, eOrT, eAndT, eNot, eAnd, eOr, eIf, sSeq, sSet, sIf, sRet, sRetN, sExpr, sNil, sPar, sPar3, sAsg, sAsq, gTu, gCn, gN, gNl, qTu, qCn, qN, qNl, qSub, aCons, aNil, aApp, eTup, eLst, eCel, ofO, ofP, Res.bind, Res.out, Res.bind0, eCb, f1, f2, eCallP, eSl, eSlS, pNone, pSome, sSub, eFld, fnD, fnDC, startD, pick, eChain, eIsi, eProp, noX, eMt, eM0, sFor, iSeq, iRange1, iRange2, eDct0, onlyS, onlyB, addD_int, subD_int, ltD_int, gtD_int, leD_int, geD_int, ixD_tup, ixD_lst, ixD_scr, atI_0, atI_1, atI_2, atI_3, atI_4, atI_5, atI_6, atI_7, atI_8, toIntD_int, truD_bl, List.getElem?_cons_zero, List.getElem?_cons_succ, List.getElem?_nil, List.set_cons_zero, List.set_cons_succ, List.length_cons, List.length_nil, List.map_cons, List.map_nil, List.replicate, List.append_nil, List.nil_append, List.cons_append, List.filterMap_cons, List.filterMap_nil, Nat.sub_self, Nat.zero_add, Nat.reduceAdd, Nat.reduceSub, Option.map_some, Option.map_none, if_true, if_false, ite_true, ite_false, reduceIte, Bool.false_eq_true, Nat.reduceLeDiff, Nat.reduceLT, Int.reduceLE, Int.reduceLT, Int.reduceEq, Nat.reduceBEq, Nat.reduceEqDiff, beq_self_eq_true, Bool.and_self, Bool.and_true, Bool.true_and, Bool.not_true, Bool.not_false, Bool.or_true, Bool.true_or, Bool.false_or, Bool.or_false, Bool.and_false, Bool.false_and, decide_true, decide_false, e2]) (by omega) (by omega)
    exact this
  have ea : addD T (.str letters) (.str digits) = some (.str (letters ++ digits)) := addD_str (by decide +kernel)
  simp only [wordF, wordB, eVar, eC, eBin, eBinR, eB, eTru, eNotT, eOrT, eAndT, eNot, eAnd, eOr, eIf, sSeq, sSet, sIf, sRet, sRetN, sExpr, sNil, sPar, sPar3, sAsg, sAsq, gTu, gCn, gN, gNl, qTu, qCn, qN, qNl, qSub, aCons, aNil, aApp, eTup, eLst, eCel, ofO, ofP, Res.bind, Res.out, Res.bind0, eCb, f1, f2, eCallP, eSl, eSlS, pNone, pSome, sSub, eFld, fnD, fnDC, startD, pick, eChain, eIsi, eProp, noX, eMt, eM0, sFor, iSeq, eDct0, onlyS, onlyB, addD_int, subD_int, ltD_int, gtD_int, leD_int, geD_int, ixD_tup, ixD_lst, ixD_scr, atI_0, atI_1, atI_2, atI_3, atI_4, atI_5, atI_6, atI_7, atI_8, toIntD_int, truD_bl, List.getElem?_cons_zero, List.getElem?_cons_succ, List.getElem?_nil, List.set_cons_zero, List.set_cons_succ, List.length_cons, List.length_nil, List.map_cons, List.map_nil, List.replicate, List.append_nil, List.nil_append, List.cons_append, List.filterMap_cons, List.filterMap_nil, Nat.sub_self, Nat.zero_add, Nat.reduceAdd, Nat.reduceSub, Option.map_some, Option.map_none, if_true, if_false, ite_true, ite_false, reduceIte, Bool.false_eq_true, Nat.reduceLeDiff, Nat.reduceLT, Int.reduceLE, Int.reduceLT, Int.reduceEq, Nat.reduceBEq, Nat.reduceEqDiff, beq_self_eq_true, Bool.and_self, Bool.and_true, Bool.true_and, Bool.not_true, Bool.not_false, Bool.or_true, Bool.true_or, Bool.false_or, Bool.or_false, Bool.and_false, Bool.false_and, decide_true, decide_false, ea, e1, ec, er, e3]
  rw [leave_same (h.lens h3)]
end Pd
end
section
/-! Pd, part Lb: texts among texts; spare names. -/
namespace Pd
open PySem PySem.Spec PyProof.Rows L2

theorem pyFs_strs {rec : D → Option PyData} {S : Store} : ∀ ys : List Str, pyFs rec S (ys.map .str) = some (ys.map .str)
  | [] => rfl
  | y :: r => by
    simp only [List.map_cons, pyFs, pyFs_strs r]
    rfl
theorem py_strs {S : Store} (k : Nat) (ys : List Str) : py S k (.lst (ys.map .str)) = some (.list (ys.map .str)) := by
  cases k <;> simp only [py, pyF, pyFs_strs, Option.map_some]
theorem mapM_strs {S : Store} (k : Nat) : ∀ ys : List Str, (ys.map D.str).mapM (py S k) = some (ys.map .str)
  | [] => rfl
  | y :: r => by
    rw [List.map_cons, List.mapM_cons, mapM_strs k r]
    cases k <;> rfl
theorem py_strsR {S : Store} {n : Nat} {ys : List Str} (h : S[n]? = some (.lst (ys.map .str))) : py S 4 (.ref n) = some (.list (ys.map .str)) := by
  show pyF (py S 3) S (.ref n) = _
  simp only [pyF, h, mapM_strs, Option.map_some]
theorem canLay_strs : ∀ {ys : List Str}, (∀ y ∈ ys, PyData.strOk y = true) → PyData.canLayAll0 (ys.map .str) = true
  | [], _ => rfl
  | y :: r, h => by
    simp only [List.map_cons, PyData.canLayAll0, PyData.canLay0, h y (List.mem_cons_self ..), Bool.true_and]
    exact canLay_strs fun z hz => h z (List.mem_cons_of_mem _ hz)
theorem depth_strs : ∀ ys : List Str, PyData.depthAll (ys.map .str) = 0
  | [] => rfl
  | y :: r => by simp [PyData.depthAll, PyData.depth, depth_strs r]
theorem shaped_strs {ys : List Str} (h : ∀ y ∈ ys, PyData.strOk y = true) : SeqAt.shaped (.list (ys.map .str)) = true := by
  simp [SeqAt.shaped, PyData.canLay0, canLay_strs h, PyData.depth, depth_strs]
theorem anyEqv_strs {w : Str} (ys : List Str) : anyEqv (.str w) (ys.map .str) = decide (w ∈ ys) := by
  unfold anyEqv
  induction ys with
  | nil => rfl
  | cons y r ih =>
    rw [List.map_cons, List.any_cons, ih]
    by_cases q : y = w
    · subst q; simp [PyData.eqv]
    · have q' : ¬ w = y := fun z => q z.symm
      simp [PyData.eqv, q, q']
theorem inB_strsR {S : Store} {n : Nat} {ys : List Str} {w : Str} (h : S[n]? = some (.lst (ys.map .str))) (hy : ∀ y ∈ ys, PyData.strOk y = true) (hw : PyData.strOk w = true) : inB S (.str w) (.ref n) = some (decide (w ∈ ys)) := by
  have e : py S 4 (.str w) = some (.str w) := rfl
  simp only [inB, e, py_strsR h]
  rw [if_pos (by rw [shaped_str hw, shaped_strs hy]; rfl), anyEqv_strs]
theorem inB_strs {S : Store} {ys : List Str} {w : Str} (hy : ∀ y ∈ ys, PyData.strOk y = true) (hw : PyData.strOk w = true) : inB S (.str w) (.lst (ys.map .str)) = some (decide (w ∈ ys)) := by
  have e : py S 4 (.str w) = some (.str w) := rfl
  simp only [inB, e, py_strs]
  rw [if_pos (by rw [shaped_str hw, shaped_strs hy]; rfl), anyEqv_strs]
theorem inB_strsT {S : Store} {ys : List Str} {w : Str} : inB S (.str w) (.tup (ys.map .str)) = some (decide (w ∈ ys)) := by
  have e : py S 4 (.str w) = some (.str w) := rfl
  have f : (ys.map PyData.str).all flatP = true := by simp [flatP]
  simp only [inB, e, pyFs_strs]
  rw [if_pos (by rw [f]; rfl), anyEqv_strs]

/-! ### the texts of small numbers -/
def digB (l : List Nat) : Bool := l.all fun c => decide (48 ≤ c) && decide (c ≤ 57)
theorem small_all : ((List.range 100).all fun i => digB (TL.tl (istr (i : Nat))) && decide (1 ≤ (TL.tl (istr (i : Nat))).length) && decide ((TL.tl (istr (i : Nat))).length ≤ 2) && decide (PySem.intText? (istr (i : Nat)) = some (i : Int))) = true := by decide +kernel
theorem small_at {i : Nat} (h : i < 100) : digB (TL.tl (istr (i : Nat))) = true ∧ 1 ≤ (TL.tl (istr (i : Nat))).length ∧ (TL.tl (istr (i : Nat))).length ≤ 2 ∧ PySem.intText? (istr (i : Nat)) = some (i : Int) := by
  have := List.all_eq_true.mp small_all i (List.mem_range.mpr h)
  simp only [Bool.and_eq_true, decide_eq_true_eq] at this
  exact ⟨this.1.1.1, this.1.1.2, this.1.2, this.2⟩
theorem istr_inj {i j : Nat} (hi : i < 100) (hj : j < 100) (e : istr (i : Nat) = istr (j : Nat)) : i = j := by
  have a := (small_at hi).2.2.2
  have b := (small_at hj).2.2.2
  rw [e, b] at a
  have := Option.some.inj a
  omega
def nStr (i : Nat) : Str := ("n" : Str) ++ istr (i : Nat)
theorem tl_n : TL.tl "n" = [110] := by decide +kernel
theorem nStr_tl (i : Nat) : TL.tl (nStr i) = 110 :: TL.tl (istr (i : Nat)) := by rw [nStr, TL.tl_append, tl_n]; rfl
theorem nStr_inj {i j : Nat} (hi : i < 100) (hj : j < 100) (e : nStr i = nStr j) : i = j := by
  refine istr_inj hi hj (TL.ext_tl ?_)
  have := congrArg TL.tl e
  rw [nStr_tl, nStr_tl] at this
  exact (List.cons.inj this).2
theorem nStr_name {i : Nat} (h : i < 100) : NameS (nStr i) := by
  obtain ⟨h1, _, h3, _⟩ := small_at h
  refine ⟨110, TL.tl (istr (i : Nat)), nStr_tl i, by omega, by unfold LowC; omega, fun d hd => .inr ?_⟩
  have := List.all_eq_true.mp h1 d hd
  simpa only [Bool.and_eq_true, decide_eq_true_eq] using this
theorem pigeon {α : Type} [DecidableEq α] (f : Nat → α) : ∀ (n : Nat) (ys : List α), (∀ i j, i < n → j < n → f i = f j → i = j) → (∀ i, i < n → f i ∈ ys) → n ≤ ys.length
  | 0, _, _, _ => Nat.zero_le _
  | n + 1, ys, inj, h => by
    have hn := h n (by omega)
    have := pigeon f n (ys.erase (f n)) (fun i j hi hj e => inj i j (by omega) (by omega) e) fun i hi => (List.mem_erase_of_ne (fun e => by have := inj i n (by omega) (by omega) e; omega)).mpr (h i (by omega))
    rw [List.length_erase_of_mem hn] at this
    have : 0 < ys.length := List.length_pos_of_mem hn
    omega
/-- one of so many is not there -/
theorem fresh_n {ys : List Str} {L : Nat} (hL : L + ys.length < 100) : ∃ k, k ≤ ys.length ∧ nStr (L + k) ∉ ys ∧ ∀ j, j < k → nStr (L + j) ∈ ys := by
  by_cases q : ∃ k, k ≤ ys.length ∧ nStr (L + k) ∉ ys
  · obtain ⟨k0, h0, h1⟩ := q
    have key : ∀ n, (∃ k, k ≤ n ∧ nStr (L + k) ∉ ys) → ∃ k, k ≤ n ∧ nStr (L + k) ∉ ys ∧ ∀ j, j < k → nStr (L + j) ∈ ys := by
      intro n
      induction n with
      | zero =>
        rintro ⟨k, hk, h⟩
        obtain rfl : k = 0 := by omega
        exact ⟨0, by omega, h, fun j hj => by omega⟩
      | succ n ih =>
        rintro ⟨k, hk, h⟩
        by_cases q : ∃ k, k ≤ n ∧ nStr (L + k) ∉ ys
        · obtain ⟨k', a, b, c⟩ := ih q
          exact ⟨k', by omega, b, c⟩
        · have e : k = n + 1 := by
            rcases Nat.lt_or_ge n k with z | z
            · omega
            · exact absurd ⟨k, z, h⟩ q
          subst e
          refine ⟨n + 1, by omega, h, fun j hj => ?_⟩
          by_cases z : nStr (L + j) ∈ ys
          · exact z
          · exact absurd ⟨j, by omega, z⟩ q
    exact key _ ⟨k0, h0, h1⟩
  · exfalso
    have all : ∀ k, k ≤ ys.length → nStr (L + k) ∈ ys := fun k hk => by
      by_cases z : nStr (L + k) ∈ ys
      · exact z
      · exact absurd ⟨k, hk, z⟩ q
    have := pigeon (fun k => nStr (L + k)) (ys.length + 1) ys (fun i j hi hj e => by have := nStr_inj (by omega) (by omega) e; omega) fun i hi => all i (by omega)
    omega

def spareB (tbl : List (Nat × FD)) : EvS :=
    (sSeq (sFor (iRange1 (aCons (eBin addD (eCb lenF (aCons (eVar 0) aNil)) (eC (.int 1))) aNil)) (gN 1) (sIf (eB (eBin notInD (eBin addD (eC (.str "n")) (dunE tbl (f1 strD) (eBin addD (eCb lenF (aCons (eVar 0) aNil)) (eVar 1)))) (eVar 0))) (sRet (eBin addD (eC (.str "n")) (dunE tbl (f1 strD) (eBin addD (eCb lenF (aCons (eVar 0) aNil)) (eVar 1))))) sNil))
    (sRet (eC (.str "n"))))
def spareF (tbl : List (Nat × FD)) : FD := fnD 2 (spareB tbl)
/-- a loop that ends in a return -/
theorem loop_ret {g : Tg} {body : EvS} (I : Nat → Slots → Store → Prop) {d : D} {S' : Store} : ∀ {xs : List D} {k m : Nat} {ρ : Slots} {S : Store}, m < xs.length → I k ρ S →
    (∀ (i : Nat) (x : D) (ρ : Slots) (S : Store), i < m → xs[i]? = some x → I (k + i) ρ S → ∃ ρ0, g x ρ = some ρ0 ∧ ∃ ρ1 S1, (body ρ0 S = .nx ρ1 S1 ∨ body ρ0 S = .ct ρ1 S1) ∧ I (k + i + 1) ρ1 S1) →
    (∀ (x : D) (ρ : Slots) (S : Store), xs[m]? = some x → I (k + m) ρ S → ∃ ρ0, g x ρ = some ρ0 ∧ body ρ0 S = .rt d S') →
    loopL g body xs ρ S = .rt d S'
  | [], _, _, _, _, h, _, _, _ => by simp at h
  | x :: r, k, 0, ρ, S, _, h, _, fin => by
    obtain ⟨ρ0, e0, e1⟩ := fin x ρ S rfl h
    simp only [loopL, e0, e1]
  | x :: r, k, m + 1, ρ, S, hm, h, st, fin => by
    obtain ⟨ρ0, e0, ρ1, S1, e1, h1⟩ := st 0 x ρ S (by omega) rfl h
    have := loop_ret I (xs := r) (k := k + 1) (m := m) (ρ := ρ1) (S := S1) (by simpa using hm) h1
      (fun i y ρ S hi hy hI => by
        have := st (i + 1) y ρ S (by omega) (by simpa using hy) (by rw [show k + (i + 1) = k + 1 + i by omega]; exact hI)
        rw [show k + (i + 1) + 1 = k + 1 + i + 1 by omega] at this
        exact this)
      (fun y ρ S hy hI => fin y ρ S (by simpa using hy) (by rw [show k + (m + 1) = k + 1 + m by omega]; exact hI))
    rcases e1 with e1 | e1 <;> simp only [loopL, e0, e1, this]
theorem spare_gen {S : Store} {tbl : List (Nat × FD)} {d : D} {ys : List Str} (el : lenF S [d] = some (.int ys.length, S)) (hin : ∀ w, PyData.strOk w = true → inB S (.str w) d = some (decide (w ∈ ys))) (hl : ys.length ≤ 40) : ∃ s, spareF tbl [d] S = .ok (.str s, S) ∧ NameS s ∧ s ∉ ys := by
  obtain ⟨k, hk, h1, h2⟩ := fresh_n (ys := ys) (L := ys.length) (by omega)
  have lg : ∀ j : Nat, j < 100 → ((ys.length : Int) + j).natAbs.log2 < 1920 := fun j hj => by
    have : ((ys.length : Int) + j).natAbs = ys.length + j := by omega
    rw [this]
    exact Nat.lt_of_le_of_lt (Nat.log2_le_self _) (by omega)
  have ok : ∀ j : Nat, ys.length + j < 100 → PyData.strOk (nStr (ys.length + j)) = true := fun j hj => (nStr_name hj).ok
  have sz : ∀ j : Nat, ys.length + j < 100 → Str.length "n" + (istr ((ys.length : Int) + j)).length ≤ 16777216 := fun j hj => by
    have a := (small_at hj).2.2.1
    rw [← TL.len_tl] at a
    have e : ((ys.length + j : Nat) : Int) = (ys.length : Int) + j := by omega
    rw [e] at a
    have b : Str.length "n" = 1 := by decide +kernel
    omega
  have es : ∀ j : Nat, ("n" : Str) ++ istr ((ys.length : Int) + j) = nStr (ys.length + j) := fun j => by
    unfold nStr
    rw [show ((ys.length + j : Nat) : Int) = (ys.length : Int) + j by omega]
  have ni : ∀ j : Nat, ys.length + j < 100 → notInD S (.str (nStr (ys.length + j))) d = some (.bl (!decide (nStr (ys.length + j) ∈ ys))) := fun j hj => by
    simp only [notInD, hin _ (ok j hj), Option.map_some]
  have er : iRange1 (aCons (eBin addD (eCb lenF (aCons (eVar 0) aNil)) (eC (.int 1))) aNil) [some d, none] S = .ok (rangeD 0 (ys.length + 1), S) := by
    have := iRange1_eq (g := aCons (eBin addD (eCb lenF (aCons (eVar 0) aNil)) (eC (.int 1))) aNil) (ρ := [some d, none]) (S := S) (S' := S) (i := (ys.length : Int) + 1) (by simp only [eVar, eC, eBin, eBinR, eB, eTru, eNotT, eOrT, eAndT, eNot, eAnd, eOr, eIf, sSeq, sSet, sIf, sRet, sRetN, sExpr, sNil, sPar, sPar3, sAsg, sAsq, gTu, gCn, gN, gNl, qTu, qCn, qN, qNl, qSub, aCons, aNil, aApp, eTup, eLst, eCel, ofO, ofP, Res.bind, Res.out, Res.bind0, eCb, f1, f2, eCallP, eSl, eSlS, pNone, pSome, sSub, eFld, fnD, fnDC, startD, pick, eChain, eIsi, eProp, noX, eMt, eM0, sFor, iSeq, iRange1, iRange2, eDct0, onlyS, onlyB, addD_int, subD_int, ltD_int, gtD_int, leD_int, geD_int, ixD_tup, ixD_lst, ixD_scr, atI_0, atI_1, atI_2, atI_3, atI_4, atI_5, atI_6, atI_7, atI_8, toIntD_int, truD_bl, List.getElem?_cons_zero, List.getElem?_cons_succ, List.getElem?_nil, List.set_cons_zero, List.set_cons_succ, List.length_cons, List.length_nil, List.map_cons, List.map_nil, List.replicate, List.append_nil, List.nil_append, List.cons_append, List.filterMap_cons, List.filterMap_nil, Nat.sub_self, Nat.zero_add, Nat.reduceAdd, Nat.reduceSub, Option.map_some, Option.map_none, if_true, if_false, ite_true, ite_false, reduceIte, Bool.false_eq_true, Nat.reduceLeDiff, Nat.reduceLT, Int.reduceLE, Int.reduceLT, Int.reduceEq, Nat.reduceBEq, Nat.reduceEqDiff, beq_self_eq_true, Bool.and_self, Bool.and_true, Bool.true_and, Bool.not_true, Bool.not_false, Bool.or_true, Bool.true_or, Bool.false_or, Bool.or_false, Bool.and_false, Bool.false_and, decide_true, decide_false, el]) (by omega) (by omega)
    rw [show ((ys.length : Int) + 1).toNat = ys.length + 1 by omega] at this
    exact this
  refine ⟨nStr (ys.length + k), ?_, nStr_name (by omega), h1⟩
  have lp : loopL (gN 1) (sIf (eB (eBin notInD (eBin addD (eC (.str "n")) (dunE tbl (f1 strD) (eBin addD (eCb lenF (aCons (eVar 0) aNil)) (eVar 1)))) (eVar 0))) (sRet (eBin addD (eC (.str "n")) (dunE tbl (f1 strD) (eBin addD (eCb lenF (aCons (eVar 0) aNil)) (eVar 1))))) sNil) (rangeD 0 (ys.length + 1)) [some d, none] S = .rt (.str (nStr (ys.length + k))) S := by
    refine loop_ret (fun _ ρ Z => Z = S ∧ ∃ a, ρ = [some d, a]) (m := k) (k := 0) (by rw [rangeD_len]; omega) ⟨rfl, _, rfl⟩ ?_ ?_
    · rintro i x ρ Z hi hx ⟨rfl, a, rfl⟩
      obtain ⟨rfl, hi2⟩ := rangeD_get hx
      refine ⟨_, rfl, ?_⟩
      have e0 : (ys.length : Int) + (0 + (i : Int)) = (ys.length : Int) + i := by omega
      simp only [eVar, eC, eBin, eBinR, eB, eTru, eNotT, eOrT, eAndT, eNot, eAnd, eOr, eIf, sSeq, sSet, sIf, sRet, sRetN, sExpr, sNil, sPar, sPar3, sAsg, sAsq, gTu, gCn, gN, gNl, qTu, qCn, qN, qNl, qSub, aCons, aNil, aApp, eTup, eLst, eCel, ofO, ofP, Res.bind, Res.out, Res.bind0, eCb, f1, f2, eCallP, eSl, eSlS, pNone, pSome, sSub, eFld, fnD, fnDC, startD, pick, eChain, eIsi, eProp, noX, eMt, eM0, sFor, iSeq, iRange1, iRange2, eDct0, onlyS, onlyB, addD_int, subD_int, ltD_int, gtD_int, leD_int, geD_int, ixD_tup, ixD_lst, ixD_scr, atI_0, atI_1, atI_2, atI_3, atI_4, atI_5, atI_6, atI_7, atI_8, toIntD_int, truD_bl, List.getElem?_cons_zero, List.getElem?_cons_succ, List.getElem?_nil, List.set_cons_zero, List.set_cons_succ, List.length_cons, List.length_nil, List.map_cons, List.map_nil, List.replicate, List.append_nil, List.nil_append, List.cons_append, List.filterMap_cons, List.filterMap_nil, Nat.sub_self, Nat.zero_add, Nat.reduceAdd, Nat.reduceSub, Option.map_some, Option.map_none, if_true, if_false, ite_true, ite_false, reduceIte, Bool.false_eq_true, Nat.reduceLeDiff, Nat.reduceLT, Int.reduceLE, Int.reduceLT, Int.reduceEq, Nat.reduceBEq, Nat.reduceEqDiff, beq_self_eq_true, Bool.and_self, Bool.and_true, Bool.true_and, Bool.not_true, Bool.not_false, Bool.or_true, Bool.true_or, Bool.false_or, Bool.or_false, Bool.and_false, Bool.false_and, decide_true, decide_false, dunE, fldsD_int, el, e0, strD_int (lg i (by omega)), addD_str (sz i (by omega)), es, ni i (by omega), h2 i hi]
      exact ⟨_, _, .inl rfl, rfl, _, rfl⟩
    · rintro x ρ Z hx ⟨rfl, a, rfl⟩
      obtain ⟨rfl, hi2⟩ := rangeD_get hx
      refine ⟨_, rfl, ?_⟩
      have e0 : (ys.length : Int) + (0 + (k : Int)) = (ys.length : Int) + k := by omega
      simp only [eVar, eC, eBin, eBinR, eB, eTru, eNotT, eOrT, eAndT, eNot, eAnd, eOr, eIf, sSeq, sSet, sIf, sRet, sRetN, sExpr, sNil, sPar, sPar3, sAsg, sAsq, gTu, gCn, gN, gNl, qTu, qCn, qN, qNl, qSub, aCons, aNil, aApp, eTup, eLst, eCel, ofO, ofP, Res.bind, Res.out, Res.bind0, eCb, f1, f2, eCallP, eSl, eSlS, pNone, pSome, sSub, eFld, fnD, fnDC, startD, pick, eChain, eIsi, eProp, noX, eMt, eM0, sFor, iSeq, iRange1, iRange2, eDct0, onlyS, onlyB, addD_int, subD_int, ltD_int, gtD_int, leD_int, geD_int, ixD_tup, ixD_lst, ixD_scr, atI_0, atI_1, atI_2, atI_3, atI_4, atI_5, atI_6, atI_7, atI_8, toIntD_int, truD_bl, List.getElem?_cons_zero, List.getElem?_cons_succ, List.getElem?_nil, List.set_cons_zero, List.set_cons_succ, List.length_cons, List.length_nil, List.map_cons, List.map_nil, List.replicate, List.append_nil, List.nil_append, List.cons_append, List.filterMap_cons, List.filterMap_nil, Nat.sub_self, Nat.zero_add, Nat.reduceAdd, Nat.reduceSub, Option.map_some, Option.map_none, if_true, if_false, ite_true, ite_false, reduceIte, Bool.false_eq_true, Nat.reduceLeDiff, Nat.reduceLT, Int.reduceLE, Int.reduceLT, Int.reduceEq, Nat.reduceBEq, Nat.reduceEqDiff, beq_self_eq_true, Bool.and_self, Bool.and_true, Bool.true_and, Bool.not_true, Bool.not_false, Bool.or_true, Bool.true_or, Bool.false_or, Bool.or_false, Bool.and_false, Bool.false_and, decide_true, decide_false, dunE, fldsD_int, el, e0, strD_int (lg k (by omega)), addD_str (sz k (by omega)), es, ni k (by omega), decide_eq_false h1]
  simp only [spareF, spareB, eVar, eC, eBin, eBinR, eB, eTru, eNotT, eOrT, eAndT, eNot, eAnd, eOr, eIf, sSeq, sSet, sIf, sRet, sRetN, sExpr, sNil, sPar, sPar3, sAsg, sAsq, gTu, gCn, gN, gNl, qTu, qCn, qN, qNl, qSub, aCons, aNil, aApp, eTup, eLst, eCel, ofO, ofP, Res.bind, Res.out, Res.bind0, eCb, f1, f2, eCallP, eSl, eSlS, pNone, pSome, sSub, eFld, fnD, fnDC, startD, pick, eChain, eIsi, eProp, noX, eMt, eM0, sFor, iSeq, eDct0, onlyS, onlyB, addD_int, subD_int, ltD_int, gtD_int, leD_int, geD_int, ixD_tup, ixD_lst, ixD_scr, atI_0, atI_1, atI_2, atI_3, atI_4, atI_5, atI_6, atI_7, atI_8, toIntD_int, truD_bl, List.getElem?_cons_zero, List.getElem?_cons_succ, List.getElem?_nil, List.set_cons_zero, List.set_cons_succ, List.length_cons, List.length_nil, List.map_cons, List.map_nil, List.replicate, List.append_nil, List.nil_append, List.cons_append, List.filterMap_cons, List.filterMap_nil, Nat.sub_self, Nat.zero_add, Nat.reduceAdd, Nat.reduceSub, Option.map_some, Option.map_none, if_true, if_false, ite_true, ite_false, reduceIte, Bool.false_eq_true, Nat.reduceLeDiff, Nat.reduceLT, Int.reduceLE, Int.reduceLT, Int.reduceEq, Nat.reduceBEq, Nat.reduceEqDiff, beq_self_eq_true, Bool.and_self, Bool.and_true, Bool.true_and, Bool.not_true, Bool.not_false, Bool.or_true, Bool.true_or, Bool.false_or, Bool.or_false, Bool.and_false, Bool.false_and, decide_true, decide_false, er, lp]
  exact leave_same rfl
theorem spare_specR {S : Store} {tbl : List (Nat × FD)} {n : Nat} {ys : List Str} (h : S[n]? = some (.lst (ys.map .str))) (hy : ∀ y ∈ ys, PyData.strOk y = true) (hl : ys.length ≤ 40) : ∃ s, spareF tbl [.ref n] S = .ok (.str s, S) ∧ NameS s ∧ s ∉ ys :=
  spare_gen (by simp only [lenF, seqA, seqL, h, Option.map_some, List.length_map]) (fun w hw => inB_strsR h hy hw) hl
theorem spare_specL {S : Store} {tbl : List (Nat × FD)} {ys : List Str} (hy : ∀ y ∈ ys, PyData.strOk y = true) (hl : ys.length ≤ 40) : ∃ s, spareF tbl [.lst (ys.map .str)] S = .ok (.str s, S) ∧ NameS s ∧ s ∉ ys :=
  spare_gen (by rw [lenF_lst, List.length_map]) (fun w hw => inB_strs hy hw) hl
end Pd
end
section
/-! Pd, part Lc: so many different names. -/
namespace Pd
open PySem PySem.Spec PyProof.Rows L2

theorem word_app {S T : Store} {n : Nat} (X : Store) (h : PP S n T) : ∃ s T', wordF [.ref n] (T ++ X) = .ok (.str s, T' ++ X) ∧ NameS s ∧ PP S n T' := by
  obtain ⟨s, T', e, a, c⟩ := word_spec (h.app X)
  obtain ⟨T0, rfl, h0⟩ := c.unapp h.1
  exact ⟨s, T0, e, a, h0⟩
def menuS : Str := "place join leave yes no keep back out house wave days silent declined a b"
def menuL : List Str := ["place", "join", "leave", "yes", "no", "keep", "back", "out", "house", "wave", "days", "silent", "declined", "a", "b"]
theorem menu_split : Txt.split menuS " " = menuL := by decide +kernel
def nameB (l : List Nat) : Bool := match l with
  | [] => false
  | c :: r => decide (r.length ≤ 7) && (decide (97 ≤ c) && decide (c ≤ 122)) && r.all fun d => (decide (97 ≤ d) && decide (d ≤ 122)) || (decide (48 ≤ d) && decide (d ≤ 57))
theorem nameB_ok {s : Str} (h : nameB (TL.tl s) = true) : NameS s := by
  unfold nameB at h
  split at h
  · cases h
  · rename_i c r e
    simp only [Bool.and_eq_true, decide_eq_true_eq, List.all_eq_true, Bool.or_eq_true] at h
    exact ⟨c, r, e, h.1.1, h.1.2, fun d hd => h.2 d hd⟩
theorem menu_names : ∀ y ∈ menuL, NameS y := by
  have : (menuL.all fun y => nameB (TL.tl y)) = true := by decide +kernel
  exact fun y hy => nameB_ok (List.all_eq_true.mp this y hy)
theorem menu_ix {k : Int} (h0 : 0 ≤ k) (h1 : k < 15) : ∃ w, atI (menuL.map D.str) k = some (.str w) ∧ NameS w := by
  obtain ⟨j, rfl⟩ : ∃ j : Nat, k = j := ⟨k.toNat, by omega⟩
  have hj : j < menuL.length := by show j < 15; omega
  exact ⟨menuL[j], atI_nat (by rw [List.getElem?_map, List.getElem?_eq_getElem hj]; rfl), menu_names _ (List.getElem_mem hj)⟩
theorem tl_cutS (z : Str) (lo hi : Option Int) : TL.tl (cutS z lo hi) = cutD (TL.tl z) lo hi := by
  simp [cutS, cutD, TL.tl, Str.length]
theorem slD_str {S : Store} {z : Str} {l h : Option Int} (hz : z.length ≤ 16777216) : slD S (.str z) l h = some (.str (cutS z l h)) := by
  show (if _ then _ else _) = _
  rw [if_pos hz]
theorem cutD_to {α : Type} {xs : List α} {k : Nat} (h : k ≤ xs.length) : cutD xs none (some (k : Int)) = xs.take k := by
  unfold cutD
  rw [HT.sIx_none, HT.sIx_nat, List.drop_zero, Nat.sub_zero, Nat.min_eq_left h]
theorem cutD_from {α : Type} {xs : List α} {k : Nat} (h : k ≤ xs.length) : cutD xs (some (k : Int)) none = xs.drop k := by
  unfold cutD
  rw [HT.sIx_none, HT.sIx_nat, Nat.min_eq_left h]
  exact List.take_of_length_le (by rw [List.length_drop]; exact Nat.le_refl _)
theorem LowC.al {c : Nat} (h : LowC c) : AlC c := .inl h
/-- a name with one sign exchanged -/
theorem bent_name {z : Str} {k c : Nat} (hz : NameS z) (hk : k < z.length) (hc : LowC c) : NameS (cutS z none (some (k : Int)) ++ ⟨#[c]⟩ ++ cutS z (some ((k : Int) + 1)) none) := by
  obtain ⟨x, r, e, hr, hx, hl⟩ := hz
  rw [TL.len_tl, e] at hk
  have e2 : ((k : Int) + 1) = ((k + 1 : Nat) : Int) := by omega
  unfold NameS
  rw [TL.tl_append, TL.tl_append, tl_cutS, tl_cutS, e, tl_one, e2, cutD_to (by simp at hk ⊢; omega), cutD_from (by simp at hk ⊢; omega)]
  cases k with
  | zero => exact ⟨c, r, by simp, hr, hc, hl⟩
  | succ k =>
    refine ⟨x, r.take k ++ c :: r.drop (k + 1), by simp, ?_, hx, fun d hd => ?_⟩
    · simp at hk ⊢; omega
    · rcases List.mem_append.mp hd with q | q
      · exact hl d (List.mem_of_mem_take q)
      · rcases List.mem_cons.mp q with rfl | q
        · exact hc.al
        · exact hl d (List.mem_of_mem_drop q)
theorem menuSplit {S : Store} : splitF S (.str menuS) [.str " "] = some (.lst (menuL.map .str), S) := by
  have hb : Str.length " " ≠ 0 := by decide +kernel
  have hl : menuS.length + 2 ≤ sizeLine := by decide +kernel
  simp only [splitF, if_pos (And.intro hb hl), menu_split]

def appB (tbl : List (Nat × FD)) : EvS :=
    (sExpr (eMt "list" appendF (eVar 6) (aCons (eIf (eB (eBin notInD (eVar 8) (eVar 6))) (eVar 8) (eCallP 1 0 (spareF tbl) [] [0] 1 (aCons (eVar 6) aNil) aNil)) aNil)))
def namesStep (tbl : List (Nat × FD)) : EvS :=
    (sSeq (sSet 8 (eIf (eB (eBin eqD (eVar 4) (eC (.int 0)))) (eCallP 1 0 wordF [] [0] 1 (aCons (eVar 0) aNil) aNil) (eBin ixD (eVar 3) (eCallP 2 0 pickF [] [0, 1] 2 (aCons (eVar 0) (aCons (eC (.int 15)) aNil)) aNil))))
    (sSeq (sIf (eB (eBin eqD (eVar 4) (eC (.int 1)))) (sSeq (sSet 9 (eCallP 2 0 pickF [] [0, 1] 2 (aCons (eVar 0) (aCons (eCb lenF (aCons (eVar 5) aNil)) aNil)) aNil))
    (sSet 8 (eBin addD (eBin addD (eSl (eVar 5) pNone (pSome (eVar 9))) (eBin ixD (eVar 2) (eCallP 2 0 pickF [] [0, 1] 2 (aCons (eVar 0) (aCons (eC (.int 26)) aNil)) aNil))) (eSl (eVar 5) (pSome (eBin addD (eVar 9) (eC (.int 1)))) pNone)))) sNil)
    (appB tbl)))
def namesB (menu : Str) (tbl : List (Nat × FD)) : EvS :=
    (sSeq (sSet 2 (eC (.str letters)))
    (sSeq (sSet 3 (eMt "str" splitF (eC (.str menu)) (aCons (eC (.str " ")) aNil)))
    (sSeq (sPar3 4 5 6 (aCons (eCallP 2 0 pickF [] [0, 1] 2 (aCons (eVar 0) (aCons (eC (.int 3)) aNil)) aNil) (aCons (eCallP 1 0 wordF [] [0] 1 (aCons (eVar 0) aNil) aNil) (aCons (eCel aNil) aNil))))
    (sSeq (sFor (iRange1 (aCons (eVar 1) aNil)) (gN 7) (namesStep tbl))
    (sRet (eVar 6))))))
def namesF (menu : Str) (tbl : List (Nat × FD)) : FD := fnD 10 (namesB menu tbl)
theorem app_step {tbl : List (Nat × FD)} {S Z0 : Store} {n : Nat} {ys : List Str} {w : Str} {r0 r1 r2 r3 r4 r5 r7 r9 : Option D} (h : PP S n Z0) (hy : ∀ y ∈ ys, NameS y) (hl : ys.length ≤ 40) (hw : NameS w) :
    ∃ w', NameS w' ∧ w' ∉ ys ∧ appB tbl [r0, r1, r2, r3, r4, r5, some (.ref S.length), r7, some (.str w), r9] (Z0 ++ [.lst (ys.map .str)]) = .nx [r0, r1, r2, r3, r4, r5, some (.ref S.length), r7, some (.str w), r9] (Z0 ++ [.lst ((ys ++ [w']).map .str)]) := by
  have g : (Z0 ++ [Cell.lst (ys.map .str)])[S.length]? = some (.lst (ys.map .str)) := get_end h.len
  have g2 : ∀ {d : Cell}, (Z0 ++ [Cell.lst (ys.map .str)]).set S.length d = Z0 ++ [d] := set_end h.len
  have ok : ∀ y ∈ ys, PyData.strOk y = true := fun y m => (hy y m).ok
  have ni : notInD (Z0 ++ [Cell.lst (ys.map .str)]) (.str w) (.ref S.length) = some (.bl (!decide (w ∈ ys))) := by
    simp only [notInD, inB_strsR g ok hw.ok, Option.map_some]
  have la : (ys.map D.str).length < 16777216 := by rw [List.length_map]; omega
  by_cases q : w ∈ ys
  · obtain ⟨w', e, a, b⟩ := spare_specR (tbl := tbl) g ok hl
    refine ⟨w', a, b, ?_⟩
    simp only [appB, eVar, eC, eBin, eBinR, eB, eTru, eNotT, eOrT, eAndT, eNot, eAnd, eOr, eIf, sSeq, sSet, sIf, sRet, sRetN, sExpr, sNil, sPar, sPar3, sAsg, sAsq, gTu, gCn, gN, gNl, qTu, qCn, qN, qNl, qSub, aCons, aNil, aApp, eTup, eLst, eCel, ofO, ofP, Res.bind, Res.out, Res.bind0, eCb, f1, f2, eCallP, eSl, eSlS, pNone, pSome, sSub, eFld, fnD, fnDC, startD, pick, eChain, eIsi, eProp, noX, eMt, eM0, sFor, iSeq, iRange1, iRange2, eDct0, onlyS, onlyB, addD_int, subD_int, ltD_int, gtD_int, leD_int, geD_int, ixD_tup, ixD_lst, ixD_scr, atI_0, atI_1, atI_2, atI_3, atI_4, atI_5, atI_6, atI_7, atI_8, toIntD_int, truD_bl, List.getElem?_cons_zero, List.getElem?_cons_succ, List.getElem?_nil, List.set_cons_zero, List.set_cons_succ, List.length_cons, List.length_nil, List.map_cons, List.map_nil, List.replicate, List.append_nil, List.nil_append, List.cons_append, List.filterMap_cons, List.filterMap_nil, Nat.sub_self, Nat.zero_add, Nat.reduceAdd, Nat.reduceSub, Option.map_some, Option.map_none, if_true, if_false, ite_true, ite_false, reduceIte, Bool.false_eq_true, Nat.reduceLeDiff, Nat.reduceLT, Int.reduceLE, Int.reduceLT, Int.reduceEq, Nat.reduceBEq, Nat.reduceEqDiff, beq_self_eq_true, Bool.and_self, Bool.and_true, Bool.true_and, Bool.not_true, Bool.not_false, Bool.or_true, Bool.true_or, Bool.false_or, Bool.or_false, Bool.and_false, Bool.false_and, decide_true, decide_false, isT_ref g, ni, decide_eq_true q, e, appendF_ref g la, g2, List.map_append]
  · refine ⟨w, hw, q, ?_⟩
    simp only [appB, eVar, eC, eBin, eBinR, eB, eTru, eNotT, eOrT, eAndT, eNot, eAnd, eOr, eIf, sSeq, sSet, sIf, sRet, sRetN, sExpr, sNil, sPar, sPar3, sAsg, sAsq, gTu, gCn, gN, gNl, qTu, qCn, qN, qNl, qSub, aCons, aNil, aApp, eTup, eLst, eCel, ofO, ofP, Res.bind, Res.out, Res.bind0, eCb, f1, f2, eCallP, eSl, eSlS, pNone, pSome, sSub, eFld, fnD, fnDC, startD, pick, eChain, eIsi, eProp, noX, eMt, eM0, sFor, iSeq, iRange1, iRange2, eDct0, onlyS, onlyB, addD_int, subD_int, ltD_int, gtD_int, leD_int, geD_int, ixD_tup, ixD_lst, ixD_scr, atI_0, atI_1, atI_2, atI_3, atI_4, atI_5, atI_6, atI_7, atI_8, toIntD_int, truD_bl, List.getElem?_cons_zero, List.getElem?_cons_succ, List.getElem?_nil, List.set_cons_zero, List.set_cons_succ, List.length_cons, List.length_nil, List.map_cons, List.map_nil, List.replicate, List.append_nil, List.nil_append, List.cons_append, List.filterMap_cons, List.filterMap_nil, Nat.sub_self, Nat.zero_add, Nat.reduceAdd, Nat.reduceSub, Option.map_some, Option.map_none, if_true, if_false, ite_true, ite_false, reduceIte, Bool.false_eq_true, Nat.reduceLeDiff, Nat.reduceLT, Int.reduceLE, Int.reduceLT, Int.reduceEq, Nat.reduceBEq, Nat.reduceEqDiff, beq_self_eq_true, Bool.and_self, Bool.and_true, Bool.true_and, Bool.not_true, Bool.not_false, Bool.or_true, Bool.true_or, Bool.false_or, Bool.or_false, Bool.and_false, Bool.false_and, decide_true, decide_false, isT_ref g, ni, decide_eq_false q, appendF_ref g la, g2, List.map_append]
theorem nrs_strs {k : Nat} : ∀ l : List Str, nrs k (l.map D.str) = true
  | [] => rfl
  | a :: r => by
    rw [List.map_cons]
    show (nr k (.str a) && nrs k (r.map D.str)) = true
    rw [nrs_strs r]
    rfl
theorem seq_nx {g h : EvS} {ρ ρ' : Slots} {S S' : Store} (e : g ρ S = .nx ρ' S') : sSeq g h ρ S = h ρ' S' := by
  simp only [sSeq, e]
theorem seq_rt {g h : EvS} {ρ : Slots} {S S' : Store} {d : D} (e : g ρ S = .rt d S') : sSeq g h ρ S = .rt d S' := by
  simp only [sSeq, e]
theorem for_nx {fi : EvI} {g : Tg} {b : EvS} {ρ ρ' : Slots} {S S1 S' : Store} {xs : List D} (e : fi ρ S = .ok (xs, S1)) (l : loopL g b xs ρ S1 = .nx ρ' S') : sFor fi g b ρ S = .nx ρ' S' := by
  simp only [sFor, e, Res.out, l]
theorem for_rt {fi : EvI} {g : Tg} {b : EvS} {ρ : Slots} {S S1 S' : Store} {xs : List D} {d : D} (e : fi ρ S = .ok (xs, S1)) (l : loopL g b xs ρ S1 = .rt d S') : sFor fi g b ρ S = .rt d S' := by
  simp only [sFor, e, Res.out, l]
theorem fn_rt {n : Nat} {b : EvS} {ds : List D} {S S' : Store} {d : D} {r : Res (D × Store)} (e : b (startD n ds) S = .rt d S') (h : leave S d S' = r) : fnD n b ds S = r := by
  simp only [fnD, e, h]
def namesI (S : Store) (n : Nat) (j : Nat) (road : Int) (first : Str) (i : Nat) (ρ : Slots) (Z : Store) : Prop :=
  ∃ (r7 r8 r9 : Option D) (Z0 : Store) (ys : List Str), ρ = [some (.ref n), some (.int j), some (.str letters), some (.lst (menuL.map .str)), some (.int road), some (.str first), some (.ref S.length), r7, r8, r9] ∧ Z = Z0 ++ [.lst (List.map D.str ys)] ∧ PP S n Z0 ∧ ys.length = i ∧ (∀ y ∈ ys, NameS y) ∧ ys.Nodup
theorem names_step {tbl : List (Nat × FD)} {S : Store} {n j : Nat} {road : Int} {first : Str} (a1 : 0 ≤ road) (b1 : road < 3) (hf : NameS first) (h1 : j ≤ 35) (i : Nat) (x : D) (ρ : Slots) (Z : Store) (hx : (rangeD 0 j)[i]? = some x) (hI : namesI S n j road first (0 + i) ρ Z) :
    ∃ ρ0, gN 7 x ρ = some ρ0 ∧ ∃ ρ1 S1, (namesStep tbl ρ0 Z = .nx ρ1 S1 ∨ namesStep tbl ρ0 Z = .ct ρ1 S1) ∧ namesI S n j road first (0 + i + 1) ρ1 S1 := by
    have hfl := hf.len
    revert hI
    rintro ⟨r7, r8, r9, Z0, ys, rfl, rfl, hZ, hl, hy, nd⟩
    obtain ⟨rfl, hi⟩ := rangeD_get hx
    refine ⟨_, rfl, ?_⟩
    have fin : ∀ {Z1 : Store} {w : Str} {r9' : Option D}, PP S n Z1 → NameS w → ∃ ρ1 S1, appB tbl [some (.ref n), some (.int j), some (.str letters), some (.lst (menuL.map .str)), some (.int road), some (.str first), some (.ref S.length), some (.int (0 + (i : Nat))), some (.str w), r9'] (Z1 ++ [.lst (List.map D.str ys)]) = .nx ρ1 S1 ∧
        namesI S n j road first (0 + i + 1) ρ1 S1 := by
      intro Z1 w r9' hZ1 hw
      obtain ⟨w', hw', nin, e⟩ := app_step (tbl := tbl) (r0 := some (.ref n)) (r1 := some (.int j)) (r2 := some (.str letters)) (r3 := some (.lst (menuL.map .str))) (r4 := some (.int road)) (r5 := some (.str first)) (r7 := some (.int (0 + (i : Nat)))) (r9 := r9') hZ1 hy (by omega) hw
      refine ⟨_, _, e, _, _, _, Z1, ys ++ [w'], rfl, rfl, hZ1, by simp; omega, fun y m => ?_, ?_⟩
      · rcases List.mem_append.mp m with q | q
        · exact hy y q
        · rw [List.mem_singleton.mp q]; exact hw'
      · rw [List.nodup_append]
        exact ⟨nd, by simp, fun a ha b hb e => by rw [List.mem_singleton.mp hb] at e; subst e; exact nin ha⟩
    have hc : road = 0 ∨ road = 1 ∨ road = 2 := by omega
    rcases hc with rfl | rfl | rfl
    · obtain ⟨w, Z1, ew, hw, hZ1⟩ := word_app [.lst (List.map D.str ys)] hZ
      obtain ⟨ρ1, S1, ea, inv⟩ := fin (r9' := r9) hZ1 hw
      refine ⟨ρ1, S1, .inl ?_, inv⟩
      simp only [namesStep, eVar, eC, eBin, eBinR, eB, eTru, eNotT, eOrT, eAndT, eNot, eAnd, eOr, eIf, sSeq, sSet, sIf, sRet, sRetN, sExpr, sNil, sPar, sPar3, sAsg, sAsq, gTu, gCn, gN, gNl, qTu, qCn, qN, qNl, qSub, aCons, aNil, aApp, eTup, eLst, eCel, ofO, ofP, Res.bind, Res.out, Res.bind0, eCb, f1, f2, eCallP, eSl, eSlS, pNone, pSome, sSub, eFld, fnD, fnDC, startD, pick, eChain, eIsi, eProp, noX, eMt, eM0, sFor, iSeq, iRange1, iRange2, eDct0, onlyS, onlyB, addD_int, subD_int, ltD_int, gtD_int, leD_int, geD_int, ixD_tup, ixD_lst, ixD_scr, atI_0, atI_1, atI_2, atI_3, atI_4, atI_5, atI_6, atI_7, atI_8, toIntD_int, truD_bl, List.getElem?_cons_zero, List.getElem?_cons_succ, List.getElem?_nil, List.set_cons_zero, List.set_cons_succ, List.length_cons, List.length_nil, List.map_cons, List.map_nil, List.replicate, List.append_nil, List.nil_append, List.cons_append, List.filterMap_cons, List.filterMap_nil, Nat.sub_self, Nat.zero_add, Nat.reduceAdd, Nat.reduceSub, Option.map_some, Option.map_none, if_true, if_false, ite_true, ite_false, reduceIte, Bool.false_eq_true, Nat.reduceLeDiff, Nat.reduceLT, Int.reduceLE, Int.reduceLT, Int.reduceEq, Nat.reduceBEq, Nat.reduceEqDiff, beq_self_eq_true, Bool.and_self, Bool.and_true, Bool.true_and, Bool.not_true, Bool.not_false, Bool.or_true, Bool.true_or, Bool.false_or, Bool.or_false, Bool.and_false, Bool.false_and, decide_true, decide_false, eqD_int, Int.reduceBEq, ew, ea]
    · obtain ⟨k0, Z1, ek, ka, kb, hZ1⟩ := pick_app [.lst (List.map D.str ys)] (many := 15) hZ (by omega) (by omega)
      obtain ⟨w0, ew, hw0⟩ := menu_ix ka kb
      obtain ⟨k, Z2, ek2, ka2, kb2, hZ2⟩ := pick_app [.lst (List.map D.str ys)] (many := first.length) hZ1 (by omega) (by omega)
      obtain ⟨k, rfl⟩ : ∃ m : Nat, k = m := ⟨k.toNat, by omega⟩
      obtain ⟨k3, Z3, ek3, ka3, kb3, hZ3⟩ := pick_app [.lst (List.map D.str ys)] (many := 26) hZ2 (by omega) (by omega)
      obtain ⟨c, ec, hc⟩ := letter_ix (S := Z3 ++ [.lst (List.map D.str ys)]) ka3 kb3
      have hw := bent_name hf (k := k) (by omega) hc
      obtain ⟨ρ1, S1, ea, inv⟩ := fin (r9' := some (.int k)) hZ3 hw
      refine ⟨ρ1, S1, .inl ?_, inv⟩
      have l1 : (cutS first none (some (k : Int))).length ≤ 100 := by
        rw [TL.len_tl, tl_cutS]
        unfold cutD
        refine Nat.le_trans (List.length_take_le ..) ?_
        rw [HT.sIx_nat]
        have : (TL.tl first).length = first.length := (TL.len_tl _).symm
        omega
      have l2 : (cutS first (some ((k : Int) + 1)) none).length ≤ 100 := by
        rw [TL.len_tl, tl_cutS]
        unfold cutD
        refine Nat.le_trans (List.length_take_le ..) ?_
        rw [HT.sIx_none]
        have : (TL.tl first).length = first.length := (TL.len_tl _).symm
        omega
      have l3 : Str.length ⟨#[c]⟩ = 1 := rfl
      have lf : ∀ {S : Store}, lenF S [.str first] = some (.int first.length, S) := lenF_str (by rw [show sizeLine = 16777216 from rfl]; omega)
      simp (disch := (first | omega | (simp only [slen_app]; omega))) only [namesStep, eVar, eC, eBin, eBinR, eB, eTru, eNotT, eOrT, eAndT, eNot, eAnd, eOr, eIf, sSeq, sSet, sIf, sRet, sRetN, sExpr, sNil, sPar, sPar3, sAsg, sAsq, gTu, gCn, gN, gNl, qTu, qCn, qN, qNl, qSub, aCons, aNil, aApp, eTup, eLst, eCel, ofO, ofP, Res.bind, Res.out, Res.bind0, eCb, f1, f2, eCallP, eSl, eSlS, pNone, pSome, sSub, eFld, fnD, fnDC, startD, pick, eChain, eIsi, eProp, noX, eMt, eM0, sFor, iSeq, iRange1, iRange2, eDct0, onlyS, onlyB, addD_int, subD_int, ltD_int, gtD_int, leD_int, geD_int, ixD_tup, ixD_lst, ixD_scr, atI_0, atI_1, atI_2, atI_3, atI_4, atI_5, atI_6, atI_7, atI_8, toIntD_int, truD_bl, List.getElem?_cons_zero, List.getElem?_cons_succ, List.getElem?_nil, List.set_cons_zero, List.set_cons_succ, List.length_cons, List.length_nil, List.map_cons, List.map_nil, List.replicate, List.append_nil, List.nil_append, List.cons_append, List.filterMap_cons, List.filterMap_nil, Nat.sub_self, Nat.zero_add, Nat.reduceAdd, Nat.reduceSub, Option.map_some, Option.map_none, if_true, if_false, ite_true, ite_false, reduceIte, Bool.false_eq_true, Nat.reduceLeDiff, Nat.reduceLT, Int.reduceLE, Int.reduceLT, Int.reduceEq, Nat.reduceBEq, Nat.reduceEqDiff, beq_self_eq_true, Bool.and_self, Bool.and_true, Bool.true_and, Bool.not_true, Bool.not_false, Bool.or_true, Bool.true_or, Bool.false_or, Bool.or_false, Bool.and_false, Bool.false_and, decide_true, decide_false, eqD_int, Int.reduceBEq, ek, ew, lf, ek2, eSl, pSome, pNone, slD_str, ek3, ec, addD_str, ea]
    · obtain ⟨k0, Z1, ek, ka, kb, hZ1⟩ := pick_app [.lst (List.map D.str ys)] (many := 15) hZ (by omega) (by omega)
      obtain ⟨w0, ew, hw0⟩ := menu_ix ka kb
      obtain ⟨ρ1, S1, ea, inv⟩ := fin (r9' := r9) hZ1 hw0
      refine ⟨ρ1, S1, .inl ?_, inv⟩
      simp only [namesStep, eVar, eC, eBin, eBinR, eB, eTru, eNotT, eOrT, eAndT, eNot, eAnd, eOr, eIf, sSeq, sSet, sIf, sRet, sRetN, sExpr, sNil, sPar, sPar3, sAsg, sAsq, gTu, gCn, gN, gNl, qTu, qCn, qN, qNl, qSub, aCons, aNil, aApp, eTup, eLst, eCel, ofO, ofP, Res.bind, Res.out, Res.bind0, eCb, f1, f2, eCallP, eSl, eSlS, pNone, pSome, sSub, eFld, fnD, fnDC, startD, pick, eChain, eIsi, eProp, noX, eMt, eM0, sFor, iSeq, iRange1, iRange2, eDct0, onlyS, onlyB, addD_int, subD_int, ltD_int, gtD_int, leD_int, geD_int, ixD_tup, ixD_lst, ixD_scr, atI_0, atI_1, atI_2, atI_3, atI_4, atI_5, atI_6, atI_7, atI_8, toIntD_int, truD_bl, List.getElem?_cons_zero, List.getElem?_cons_succ, List.getElem?_nil, List.set_cons_zero, List.set_cons_succ, List.length_cons, List.length_nil, List.map_cons, List.map_nil, List.replicate, List.append_nil, List.nil_append, List.cons_append, List.filterMap_cons, List.filterMap_nil, Nat.sub_self, Nat.zero_add, Nat.reduceAdd, Nat.reduceSub, Option.map_some, Option.map_none, if_true, if_false, ite_true, ite_false, reduceIte, Bool.false_eq_true, Nat.reduceLeDiff, Nat.reduceLT, Int.reduceLE, Int.reduceLT, Int.reduceEq, Nat.reduceBEq, Nat.reduceEqDiff, beq_self_eq_true, Bool.and_self, Bool.and_true, Bool.true_and, Bool.not_true, Bool.not_false, Bool.or_true, Bool.true_or, Bool.false_or, Bool.or_false, Bool.and_false, Bool.false_and, decide_true, decide_false, eqD_int, Int.reduceBEq, ek, ew, ea]
theorem names_gen {menu : Str} (hm : ∀ S, splitF S (.str menu) [.str " "] = some (.lst (menuL.map .str), S)) {tbl : List (Nat × FD)} {S T : Store} {n : Nat} {many : Int} (h : PP S n T) (h0 : 0 ≤ many) (h1 : many ≤ 35) : ∃ (ys : List Str) (T' : Store), namesF menu tbl [.ref n, .int many] T = .ok (.lst (ys.map .str), T') ∧ ((ys.length : Int) = many ∧ (∀ y ∈ ys, NameS y) ∧ ys.Nodup) ∧ PP S n T' := by
  obtain ⟨j, rfl⟩ : ∃ j : Nat, many = j := ⟨many.toNat, by omega⟩
  obtain ⟨road, T1, e1, a1, b1, p1⟩ := pick_spec (many := 3) h (by omega) (by omega)
  obtain ⟨first, T2, e2, hf, p2⟩ := word_spec p1
  have hfl := hf.len
  obtain ⟨ρ1, S1, el, r7, r8, r9, Z0, ys, rfl, rfl, hZ, hl, hy, nd⟩ := loop_inv (g := gN 7) (body := namesStep tbl) (namesI S n j road first) (xs := rangeD 0 j) (k := 0) (ρ := [some (.ref n), some (.int j), some (.str letters), some (.lst (menuL.map .str)), some (.int road), some (.str first), some (.ref S.length), none, none, none]) (S := T2 ++ [.lst (List.map D.str [])])
    ⟨none, none, none, T2, [], rfl, rfl, p2, rfl, by simp, by simp⟩ (names_step a1 b1 hf (by omega))
  rw [rangeD_len] at hl
  refine ⟨ys, Z0, ?_, ⟨by omega, hy, nd⟩, hZ⟩
  have er : iRange1 (aCons (eVar 1) aNil) [some (.ref n), some (.int j), some (.str letters), some (.lst (menuL.map .str)), some (.int road), some (.str first), some (.ref S.length), none, none, none] (T2 ++ [.lst []]) = .ok (rangeD 0 j, T2 ++ [.lst []]) := by
    have := iRange1_eq (g := aCons (eVar 1) aNil) (ρ := [some (.ref n), some (.int j), some (.str letters), some (.lst (menuL.map .str)), some (.int road), some (.str first), some (.ref S.length), none, none, none]) (S := T2 ++ [.lst []]) (S' := T2 ++ [.lst []]) (i := j) (by simp only [eVar, eC, eBin, eBinR, eB, eTru, eNotT, eOrT, eAndT, eNot, eAnd, eOr, eIf, sSeq, sSet, sIf, sRet, sRetN, sExpr, sNil, sPar, sPar3, sAsg, sAsq, gTu, gCn, gN, gNl, qTu, qCn, qN, qNl, qSub, aCons, aNil, aApp, eTup, eLst, eCel, ofO, ofP, Res.bind, Res.out, Res.bind0, eCb, f1, f2, eCallP, eSl, eSlS, pNone, pSome, sSub, eFld, fnD, fnDC, startD, pick, eChain, eIsi, eProp, noX, eMt, eM0, sFor, iSeq, iRange1, iRange2, eDct0, onlyS, onlyB, addD_int, subD_int, ltD_int, gtD_int, leD_int, geD_int, ixD_tup, ixD_lst, ixD_scr, atI_0, atI_1, atI_2, atI_3, atI_4, atI_5, atI_6, atI_7, atI_8, toIntD_int, truD_bl, List.getElem?_cons_zero, List.getElem?_cons_succ, List.getElem?_nil, List.set_cons_zero, List.set_cons_succ, List.length_cons, List.length_nil, List.map_cons, List.map_nil, List.replicate, List.append_nil, List.nil_append, List.cons_append, List.filterMap_cons, List.filterMap_nil, Nat.sub_self, Nat.zero_add, Nat.reduceAdd, Nat.reduceSub, Option.map_some, Option.map_none, if_true, if_false, ite_true, ite_false, reduceIte, Bool.false_eq_true, Nat.reduceLeDiff, Nat.reduceLT, Int.reduceLE, Int.reduceLT, Int.reduceEq, Nat.reduceBEq, Nat.reduceEqDiff, beq_self_eq_true, Bool.and_self, Bool.and_true, Bool.true_and, Bool.not_true, Bool.not_false, Bool.or_true, Bool.true_or, Bool.false_or, Bool.or_false, Bool.and_false, Bool.false_and, decide_true, decide_false]) (by omega) (by omega)
    exact this
  simp only [List.map_nil] at el
  have b1' : sPar3 4 5 6 (aCons (eCallP 2 0 pickF [] [0, 1] 2 (aCons (eVar 0) (aCons (eC (.int 3)) aNil)) aNil) (aCons (eCallP 1 0 wordF [] [0] 1 (aCons (eVar 0) aNil) aNil) (aCons (eCel aNil) aNil))) [some (.ref n), some (.int j), some (.str letters), some (.lst (menuL.map .str)), none, none, none, none, none, none] T = .nx [some (.ref n), some (.int j), some (.str letters), some (.lst (menuL.map .str)), some (.int road), some (.str first), some (.ref S.length), none, none, none] (T2 ++ [.lst []]) := by
    simp only [eVar, eC, eBin, eBinR, eB, eTru, eNotT, eOrT, eAndT, eNot, eAnd, eOr, eIf, sSeq, sSet, sIf, sRet, sRetN, sExpr, sNil, sPar, sPar3, sAsg, sAsq, gTu, gCn, gN, gNl, qTu, qCn, qN, qNl, qSub, aCons, aNil, aApp, eTup, eLst, eCel, ofO, ofP, Res.bind, Res.out, Res.bind0, eCb, f1, f2, eCallP, eSl, eSlS, pNone, pSome, sSub, eFld, fnD, fnDC, startD, pick, eChain, eIsi, eProp, noX, eMt, eM0, sFor, iSeq, eDct0, onlyS, onlyB, addD_int, subD_int, ltD_int, gtD_int, leD_int, geD_int, ixD_tup, ixD_lst, ixD_scr, atI_0, atI_1, atI_2, atI_3, atI_4, atI_5, atI_6, atI_7, atI_8, toIntD_int, truD_bl, List.getElem?_cons_zero, List.getElem?_cons_succ, List.getElem?_nil, List.set_cons_zero, List.set_cons_succ, List.length_cons, List.length_nil, List.map_cons, List.map_nil, List.replicate, List.append_nil, List.nil_append, List.cons_append, List.filterMap_cons, List.filterMap_nil, Nat.sub_self, Nat.zero_add, Nat.reduceAdd, Nat.reduceSub, Option.map_some, Option.map_none, if_true, if_false, ite_true, ite_false, reduceIte, Bool.false_eq_true, Nat.reduceLeDiff, Nat.reduceLT, Int.reduceLE, Int.reduceLT, Int.reduceEq, Nat.reduceBEq, Nat.reduceEqDiff, beq_self_eq_true, Bool.and_self, Bool.and_true, Bool.true_and, Bool.not_true, Bool.not_false, Bool.or_true, Bool.true_or, Bool.false_or, Bool.or_false, Bool.and_false, Bool.false_and, decide_true, decide_false, e1, e2, p2.len]
  have b2 : sSet 3 (eMt "str" splitF (eC (.str menu)) (aCons (eC (.str " ")) aNil)) [some (.ref n), some (.int j), some (.str letters), none, none, none, none, none, none, none] T = .nx [some (.ref n), some (.int j), some (.str letters), some (.lst (menuL.map .str)), none, none, none, none, none, none] T := by
    simp only [eVar, eC, eBin, eBinR, eB, eTru, eNotT, eOrT, eAndT, eNot, eAnd, eOr, eIf, sSeq, sSet, sIf, sRet, sRetN, sExpr, sNil, sPar, sPar3, sAsg, sAsq, gTu, gCn, gN, gNl, qTu, qCn, qN, qNl, qSub, aCons, aNil, aApp, eTup, eLst, eCel, ofO, ofP, Res.bind, Res.out, Res.bind0, eCb, f1, f2, eCallP, eSl, eSlS, pNone, pSome, sSub, eFld, fnD, fnDC, startD, pick, eChain, eIsi, eProp, noX, eMt, eM0, sFor, iSeq, eDct0, onlyS, onlyB, addD_int, subD_int, ltD_int, gtD_int, leD_int, geD_int, ixD_tup, ixD_lst, ixD_scr, atI_0, atI_1, atI_2, atI_3, atI_4, atI_5, atI_6, atI_7, atI_8, toIntD_int, truD_bl, List.getElem?_cons_zero, List.getElem?_cons_succ, List.getElem?_nil, List.set_cons_zero, List.set_cons_succ, List.length_cons, List.length_nil, List.map_cons, List.map_nil, List.replicate, List.append_nil, List.nil_append, List.cons_append, List.filterMap_cons, List.filterMap_nil, Nat.sub_self, Nat.zero_add, Nat.reduceAdd, Nat.reduceSub, Option.map_some, Option.map_none, if_true, if_false, ite_true, ite_false, reduceIte, Bool.false_eq_true, Nat.reduceLeDiff, Nat.reduceLT, Int.reduceLE, Int.reduceLT, Int.reduceEq, Nat.reduceBEq, Nat.reduceEqDiff, beq_self_eq_true, Bool.and_self, Bool.and_true, Bool.true_and, Bool.not_true, Bool.not_false, Bool.or_true, Bool.true_or, Bool.false_or, Bool.or_false, Bool.and_false, Bool.false_and, decide_true, decide_false, hm, isT_str]
  have b3 : sSet 2 (eC (.str letters)) [some (.ref n), some (.int j), none, none, none, none, none, none, none, none] T = .nx [some (.ref n), some (.int j), some (.str letters), none, none, none, none, none, none, none] T := rfl
  have b4 : sRet (eVar 6) [some (.ref n), some (.int j), some (.str letters), some (.lst (menuL.map .str)), some (.int road), some (.str first), some (.ref S.length), r7, r8, r9] (Z0 ++ [.lst (List.map D.str ys)]) = .rt (.ref S.length) (Z0 ++ [.lst (List.map D.str ys)]) := rfl
  have hb : namesB menu tbl [some (.ref n), some (.int j), none, none, none, none, none, none, none, none] T = .rt (.ref S.length) (Z0 ++ [.lst (List.map D.str ys)]) := by
    unfold namesB
    rw [seq_nx b3, seq_nx b2, seq_nx b1', seq_nx (for_nx er el), b4]
  refine fn_rt hb ?_
  exact leave_list h.len (h.lens hZ) (h.old hZ _) (nrs_strs ys)
theorem names_spec {tbl : List (Nat × FD)} {S T : Store} {n : Nat} {many : Int} (h : PP S n T) (h0 : 0 ≤ many) (h1 : many ≤ 35) : ∃ (ys : List Str) (T' : Store), namesF menuS tbl [.ref n, .int many] T = .ok (.lst (ys.map .str), T') ∧ ((ys.length : Int) = many ∧ (∀ y ∈ ys, NameS y) ∧ ys.Nodup) ∧ PP S n T' :=
  names_gen (fun _ => menuSplit) h h0 h1
end Pd
end
section
/-! Pd, part Ld: lots, people, rules. -/
namespace Pd
open PySem PySem.Spec PyProof.Rows L2

/-- a comprehension that keeps something -/
theorem lc_inv {g : Tg} {tt : EvT} {te : EvE} {ρ : Slots} (I : Nat → List D → Store → Prop) : ∀ {xs acc : List D} {k : Nat} {S : Store}, acc.length + xs.length ≤ 16777216 → I k acc S →
    (∀ (i : Nat) (x : D) (acc : List D) (S : Store), xs[i]? = some x → I (k + i) acc S → ∃ ρ1, g x ρ = some ρ1 ∧ ∃ b S1, tt ρ1 S = .ok (b, S1) ∧ ((b = true ∧ ∃ d S2, te ρ1 S1 = .ok (d, S2) ∧ I (k + i + 1) (acc ++ [d]) S2) ∨ (b = false ∧ I (k + i + 1) acc S1))) →
    ∃ ds S', lcL g tt te ρ xs acc S = .ok (ds, S') ∧ I (k + xs.length) ds S'
  | [], acc, k, S, _, h, _ => ⟨acc, S, rfl, h⟩
  | x :: r, acc, k, S, hl, h, st => by
    obtain ⟨ρ1, e0, b, S1, e1, h1⟩ := st 0 x acc S rfl h
    have st' : ∀ (i : Nat) (y : D) (acc : List D) (S : Store), r[i]? = some y → I (k + 1 + i) acc S → ∃ ρ1, g y ρ = some ρ1 ∧ ∃ b S1, tt ρ1 S = .ok (b, S1) ∧ ((b = true ∧ ∃ d S2, te ρ1 S1 = .ok (d, S2) ∧ I (k + 1 + i + 1) (acc ++ [d]) S2) ∨ (b = false ∧ I (k + 1 + i + 1) acc S1)) := fun i y acc S hy hI => by
      have := st (i + 1) y acc S (by simpa using hy) (by rw [show k + (i + 1) = k + 1 + i by omega]; exact hI)
      rw [show k + (i + 1) + 1 = k + 1 + i + 1 by omega] at this
      exact this
    have hl' : acc.length + (r.length + 1) ≤ 16777216 := by simpa using hl
    rcases h1 with ⟨rfl, d, S2, e2, h2⟩ | ⟨rfl, h2⟩
    · obtain ⟨ds, S', e3, h3⟩ := lc_inv I (xs := r) (acc := acc ++ [d]) (k := k + 1) (S := S2) (by simp; omega) h2 st'
      refine ⟨ds, S', ?_, by rw [List.length_cons, show k + (r.length + 1) = k + 1 + r.length by omega]; exact h3⟩
      simp only [lcL, e0, e1, Res.bind0, if_true, e2, if_pos (show acc.length < 16777216 by omega), e3]
    · obtain ⟨ds, S', e3, h3⟩ := lc_inv I (xs := r) (acc := acc) (k := k + 1) (S := S1) (by omega) h2 st'
      refine ⟨ds, S', ?_, by rw [List.length_cons, show k + (r.length + 1) = k + 1 + r.length by omega]; exact h3⟩
      simp only [lcL, e0, e1, Res.bind0, Bool.false_eq_true, if_false, e3]
theorem eLc_eq {fi : EvI} {vs : List Nat} {g : Tg} {tt : EvT} {te : EvE} {ρ : Slots} {S S1 S2 : Store} {xs ds : List D} (e : fi ρ S = .ok (xs, S1)) (l : lcL g tt te (wipeD ρ vs) xs [] S1 = .ok (ds, S2)) : eLc fi vs g tt te ρ S = .ok (.lst ds, S2) := by
  simp only [eLc, e, Res.bind, l]
theorem strsD_map : ∀ ys : List Str, strsD (ys.map .str) = some ys
  | [] => rfl
  | y :: r => by simp only [List.map_cons, strsD, strsD_map r, Option.map_some]
theorem sortedF_strs {S : Store} {ys : List Str} (h : ys.length < 64) : sortedF S [.lst (ys.map .str)] = some (.lst ((sortS ys).map .str), S) := by
  simp only [sortedF, seqL, List.length_map, if_pos h, strsD_map]
theorem eqvAll_nil : ∀ ps : List PyData, PyData.eqvAll ps [] = ps.isEmpty
  | [] => rfl
  | _ :: _ => rfl
theorem neD_nil {S : Store} {ys : List Str} (h : ∀ y ∈ ys, PyData.strOk y = true) : neD S (.lst (ys.map .str)) (.lst []) = some (.bl (!ys.isEmpty)) := by
  have e : py S 4 (.lst []) = some (.list []) := rfl
  have z : SeqAt.shaped (.list []) = true := by decide +kernel
  simp only [neD, py_strs, e]
  rw [if_pos (by rw [shaped_strs h, z]; rfl)]
  simp only [PyData.eqv, eqvAll_nil]
  cases ys <;> rfl

/-- a lot of some of these kinds -/
structure LotOk (ks ls : List Str) : Prop where
  ne : ls ≠ []
  four : ls.length ≤ 4
  asc : ls.Pairwise fun a b => leS a b = true
  nd : ls.Nodup
  of : ∀ k ∈ ls, k ∈ ks
def lotB : EvS :=
    (sSeq (sSet 2 (eLc (iSeq (eVar 1)) [3] (gN 3) (eB (eBin eqD (eCallP 2 0 pickF [] [0, 1] 2 (aCons (eVar 0) (aCons (eC (.int 2)) aNil)) aNil) (eC (.int 0)))) (eVar 3)))
    (sRet (eIf (eB (eBin neD (eVar 2) (eLst aNil))) (eCb tupleF (aCons (eCb sortedF (aCons (eSl (eVar 2) pNone (pSome (eC (.int 4)))) aNil)) aNil)) (eTup (aCons (eBin ixD (eVar 1) (eCallP 2 0 pickF [] [0, 1] 2 (aCons (eVar 0) (aCons (eCb lenF (aCons (eVar 1) aNil)) aNil)) aNil)) aNil)))))
def lotF : FD := fnD 4 lotB
theorem lot_spec {S T : Store} {n : Nat} {ks : List Str} (h : PP S n T) (hk : ∀ k ∈ ks, NameS k) (nd : ks.Nodup) (h1 : 1 ≤ ks.length) (h2 : ks.length ≤ 60) : ∃ (ls : List Str) (T' : Store), lotF [.ref n, .lst (ks.map .str)] T = .ok (.tup (ls.map .str), T') ∧ LotOk ks ls ∧ PP S n T' := by
  obtain ⟨ds, T1, el, ls, rfl, sub, p1⟩ := lc_inv (g := gN 3) (tt := (eB (eBin eqD (eCallP 2 0 pickF [] [0, 1] 2 (aCons (eVar 0) (aCons (eC (.int 2)) aNil)) aNil) (eC (.int 0))))) (te := eVar 3) (ρ := [some (.ref n), some (.lst (ks.map .str)), none, none])
    (fun i acc Z => ∃ ls, acc = List.map D.str ls ∧ ls.Sublist (ks.take i) ∧ PP S n Z) (xs := ks.map .str) (acc := []) (k := 0) (S := T) (by simp; omega) ⟨[], rfl, by simp, h⟩ (by
      rintro i x acc Z hx ⟨ls, rfl, sub, hZ⟩
      rw [List.getElem?_map] at hx
      obtain ⟨y, hy, rfl⟩ := Option.map_eq_some_iff.mp hx
      obtain ⟨hi, ey⟩ := List.getElem?_eq_some_iff.mp hy
      obtain ⟨k, Z1, ek, ka, kb, hZ1⟩ := pick_spec (many := 2) hZ (by omega) (by omega)
      rw [Nat.zero_add] at sub
      have tk : ks.take (i + 1) = ks.take i ++ [y] := by rw [List.take_succ, hy]; rfl
      refine ⟨_, rfl, ?_⟩
      simp only [eVar, eC, eBin, eBinR, eB, eTru, eNotT, eOrT, eAndT, eNot, eAnd, eOr, eIf, sSeq, sSet, sIf, sRet, sRetN, sExpr, sNil, sPar, sPar3, sAsg, sAsq, gTu, gCn, gN, gNl, qTu, qCn, qN, qNl, qSub, aCons, aNil, aApp, eTup, eLst, eCel, ofO, ofP, Res.bind, Res.out, Res.bind0, eCb, f1, f2, eCallP, eSl, eSlS, pNone, pSome, sSub, eFld, fnD, fnDC, startD, pick, eChain, eIsi, eProp, noX, eMt, eM0, sFor, iSeq, iRange1, iRange2, eDct0, onlyS, onlyB, addD_int, subD_int, ltD_int, gtD_int, leD_int, geD_int, ixD_tup, ixD_lst, ixD_scr, atI_0, atI_1, atI_2, atI_3, atI_4, atI_5, atI_6, atI_7, atI_8, toIntD_int, truD_bl, List.getElem?_cons_zero, List.getElem?_cons_succ, List.getElem?_nil, List.set_cons_zero, List.set_cons_succ, List.length_cons, List.length_nil, List.map_cons, List.map_nil, List.replicate, List.append_nil, List.nil_append, List.cons_append, List.filterMap_cons, List.filterMap_nil, Nat.sub_self, Nat.zero_add, Nat.reduceAdd, Nat.reduceSub, Option.map_some, Option.map_none, if_true, if_false, ite_true, ite_false, reduceIte, Bool.false_eq_true, Nat.reduceLeDiff, Nat.reduceLT, Int.reduceLE, Int.reduceLT, Int.reduceEq, Nat.reduceBEq, Nat.reduceEqDiff, beq_self_eq_true, Bool.and_self, Bool.and_true, Bool.true_and, Bool.not_true, Bool.not_false, Bool.or_true, Bool.true_or, Bool.false_or, Bool.or_false, Bool.and_false, Bool.false_and, decide_true, decide_false, ek, eqD_int]
      refine ⟨_, _, rfl, ?_⟩
      have hc : k = 0 ∨ k = 1 := by omega
      rcases hc with rfl | rfl
      · refine .inl ⟨by decide, _, _, rfl, ls ++ [y], by simp, ?_, hZ1⟩
        rw [tk]
        exact sub.append (List.Sublist.refl _)
      · refine .inr ⟨by decide, ls, rfl, ?_, hZ1⟩
        rw [tk]
        exact sub.trans (List.sublist_append_left ..))
  have sub' : ls.Sublist ks := by
    have : ks.take (0 + (ks.map D.str).length) = ks := List.take_of_length_le (by simp)
    rw [this] at sub
    exact sub
  have e0 : eLc (iSeq (eVar 1)) [3] (gN 3) (eB (eBin eqD (eCallP 2 0 pickF [] [0, 1] 2 (aCons (eVar 0) (aCons (eC (.int 2)) aNil)) aNil) (eC (.int 0)))) (eVar 3) [some (.ref n), some (.lst (ks.map .str)), none, none] T = .ok (.lst (ls.map .str), T1) :=
    eLc_eq (xs := ks.map .str) (S1 := T) rfl el
  have okl : ∀ y ∈ ls, PyData.strOk y = true := fun y m => (hk y (sub'.subset m)).ok
  by_cases q : ls = []
  · subst q
    obtain ⟨k, T2, ek, ka, kb, p2⟩ := pick_spec (many := ks.length) p1 (by omega) (by omega)
    obtain ⟨k, rfl⟩ : ∃ m : Nat, k = m := ⟨k.toNat, by omega⟩
    have hk2 : k < ks.length := by omega
    have e2 : atI (ks.map D.str) (k : Int) = some (.str ks[k]) := atI_nat (by simp [hk2])
    refine ⟨[ks[k]], T2, ?_, ⟨by simp, by simp, by simp, by simp, fun z hz => ?_⟩, p2⟩
    · have ne := neD_nil (S := T1) (ys := []) (by simp)
      simp only [List.map_nil] at e0 ne
      simp only [lotF, lotB, eVar, eC, eBin, eBinR, eB, eTru, eNotT, eOrT, eAndT, eNot, eAnd, eOr, eIf, sSeq, sSet, sIf, sRet, sRetN, sExpr, sNil, sPar, sPar3, sAsg, sAsq, gTu, gCn, gN, gNl, qTu, qCn, qN, qNl, qSub, aCons, aNil, aApp, eTup, eLst, eCel, ofO, ofP, Res.bind, Res.out, Res.bind0, eCb, f1, f2, eCallP, eSl, eSlS, pNone, pSome, sSub, eFld, fnD, fnDC, startD, pick, eChain, eIsi, eProp, noX, eMt, eM0, sFor, iSeq, iRange1, iRange2, eDct0, onlyS, onlyB, addD_int, subD_int, ltD_int, gtD_int, leD_int, geD_int, ixD_tup, ixD_lst, ixD_scr, atI_0, atI_1, atI_2, atI_3, atI_4, atI_5, atI_6, atI_7, atI_8, toIntD_int, truD_bl, List.getElem?_cons_zero, List.getElem?_cons_succ, List.getElem?_nil, List.set_cons_zero, List.set_cons_succ, List.length_cons, List.length_nil, List.map_cons, List.map_nil, List.replicate, List.append_nil, List.nil_append, List.cons_append, List.filterMap_cons, List.filterMap_nil, Nat.sub_self, Nat.zero_add, Nat.reduceAdd, Nat.reduceSub, Option.map_some, Option.map_none, if_true, if_false, ite_true, ite_false, reduceIte, Bool.false_eq_true, Nat.reduceLeDiff, Nat.reduceLT, Int.reduceLE, Int.reduceLT, Int.reduceEq, Nat.reduceBEq, Nat.reduceEqDiff, beq_self_eq_true, Bool.and_self, Bool.and_true, Bool.true_and, Bool.not_true, Bool.not_false, Bool.or_true, Bool.true_or, Bool.false_or, Bool.or_false, Bool.and_false, Bool.false_and, decide_true, decide_false, e0, ne, List.isEmpty_nil, lenF_lst, List.length_map, ek, e2]
      exact leave_same (h.lens p2)
    · rw [List.mem_singleton.mp hz]; exact List.getElem_mem hk2
  · have ne := neD_nil (S := T1) okl
    have q' : ls.isEmpty = false := by cases ls with
      | nil => exact absurd rfl q
      | cons _ _ => rfl
    have hl : ls.length ≤ 60 := Nat.le_trans sub'.length_le h2
    have cut4 : cutD (ls.map D.str) none (some 4) = (ls.take 4).map D.str := by
      unfold cutD
      rw [HT.sIx_none, show (4 : Int) = ((4 : Nat) : Int) from rfl, HT.sIx_nat, List.drop_zero, Nat.sub_zero, List.map_take]
      by_cases z : 4 ≤ (ls.map D.str).length
      · rw [Nat.min_eq_left z]
      · rw [Nat.min_eq_right (by omega), List.take_of_length_le (Nat.le_refl _), List.take_of_length_le (by omega)]
    have so := sortedF_strs (S := T1) (ys := ls.take 4) (by simp; omega)
    have pm := sortS_perm (ls.take 4)
    refine ⟨sortS (ls.take 4), T1, ?_, ⟨?_, ?_, sortS_sorted _, ?_, fun z hz => ?_⟩, p1⟩
    · simp only [lotF, lotB, eVar, eC, eBin, eBinR, eB, eTru, eNotT, eOrT, eAndT, eNot, eAnd, eOr, eIf, sSeq, sSet, sIf, sRet, sRetN, sExpr, sNil, sPar, sPar3, sAsg, sAsq, gTu, gCn, gN, gNl, qTu, qCn, qN, qNl, qSub, aCons, aNil, aApp, eTup, eLst, eCel, ofO, ofP, Res.bind, Res.out, Res.bind0, eCb, f1, f2, eCallP, eSl, eSlS, pNone, pSome, sSub, eFld, fnD, fnDC, startD, pick, eChain, eIsi, eProp, noX, eMt, eM0, sFor, iSeq, iRange1, iRange2, eDct0, onlyS, onlyB, addD_int, subD_int, ltD_int, gtD_int, leD_int, geD_int, ixD_tup, ixD_lst, ixD_scr, atI_0, atI_1, atI_2, atI_3, atI_4, atI_5, atI_6, atI_7, atI_8, toIntD_int, truD_bl, List.getElem?_cons_zero, List.getElem?_cons_succ, List.getElem?_nil, List.set_cons_zero, List.set_cons_succ, List.length_cons, List.length_nil, List.map_cons, List.map_nil, List.replicate, List.append_nil, List.nil_append, List.cons_append, List.filterMap_cons, List.filterMap_nil, Nat.sub_self, Nat.zero_add, Nat.reduceAdd, Nat.reduceSub, Option.map_some, Option.map_none, if_true, if_false, ite_true, ite_false, reduceIte, Bool.false_eq_true, Nat.reduceLeDiff, Nat.reduceLT, Int.reduceLE, Int.reduceLT, Int.reduceEq, Nat.reduceBEq, Nat.reduceEqDiff, beq_self_eq_true, Bool.and_self, Bool.and_true, Bool.true_and, Bool.not_true, Bool.not_false, Bool.or_true, Bool.true_or, Bool.false_or, Bool.or_false, Bool.and_false, Bool.false_and, decide_true, decide_false, e0, ne, q', slD_lst, cut4, so, tupleF_lst]
      exact leave_same (h.lens p1)
    · intro z
      have := pm.length_eq
      rw [z] at this
      have l0 : 0 < ls.length := List.length_pos_iff.mpr q
      simp at this
      omega
    · have := pm.length_eq
      simp at this ⊢
      omega
    · exact pm.nodup_iff.mpr ((sub'.nodup nd).sublist (List.take_sublist ..))
    · exact sub'.subset (List.mem_of_mem_take (pm.mem_iff.mp hz))

/-! ### people -/
def entryD (e : Str × List Str) : D := .tup [.str e.1, .tup (e.2.map .str)]
def peopleB : EvS :=
    (sRet (eLc (iSeq (eVar 1)) [3] (gN 3) eYes (eTup (aCons (eVar 3) (aCons (eCallP 2 0 lotF [] [0, 1] 2 (aCons (eVar 0) (aCons (eVar 2) aNil)) aNil) aNil)))))
def peopleF : FD := fnD 4 peopleB
theorem people_spec {S T : Store} {n : Nat} {ns ks : List Str} (h : PP S n T) (hk : ∀ k ∈ ks, NameS k) (nd : ks.Nodup) (h1 : 1 ≤ ks.length) (h2 : ks.length ≤ 60) (h3 : ns.length ≤ 60) :
    ∃ (es : List (Str × List Str)) (T' : Store), peopleF [.ref n, .lst (ns.map .str), .lst (ks.map .str)] T = .ok (.lst (es.map entryD), T') ∧ (es.map (·.1) = ns ∧ ∀ e ∈ es, LotOk ks e.2) ∧ PP S n T' := by
  obtain ⟨ds, T1, el, es, rfl, en, ho, p1⟩ := lc_inv (g := gN 3) (tt := eYes) (te := (eTup (aCons (eVar 3) (aCons (eCallP 2 0 lotF [] [0, 1] 2 (aCons (eVar 0) (aCons (eVar 2) aNil)) aNil) aNil)))) (ρ := [some (.ref n), some (.lst (ns.map .str)), some (.lst (ks.map .str)), none])
    (fun i acc Z => ∃ es : List (Str × List Str), acc = es.map entryD ∧ es.map (·.1) = ns.take i ∧ (∀ e ∈ es, LotOk ks e.2) ∧ PP S n Z) (xs := ns.map .str) (acc := []) (k := 0) (S := T) (by simp; omega) ⟨[], rfl, by simp, by simp, h⟩ (by
      rintro i x acc Z hx ⟨es, rfl, en, ho, hZ⟩
      rw [List.getElem?_map] at hx
      obtain ⟨y, hy, rfl⟩ := Option.map_eq_some_iff.mp hx
      obtain ⟨ls, Z1, e1, ok, hZ1⟩ := lot_spec hZ hk nd h1 h2
      rw [Nat.zero_add] at en
      have tk : ns.take (i + 1) = ns.take i ++ [y] := by rw [List.take_succ, hy]; rfl
      refine ⟨_, rfl, true, Z, rfl, .inl ⟨rfl, entryD (y, ls), Z1, ?_, es ++ [(y, ls)], by simp, ?_, fun e he => ?_, hZ1⟩⟩
      · simp only [eVar, eC, eBin, eBinR, eB, eTru, eNotT, eOrT, eAndT, eNot, eAnd, eOr, eIf, sSeq, sSet, sIf, sRet, sRetN, sExpr, sNil, sPar, sPar3, sAsg, sAsq, gTu, gCn, gN, gNl, qTu, qCn, qN, qNl, qSub, aCons, aNil, aApp, eTup, eLst, eCel, ofO, ofP, Res.bind, Res.out, Res.bind0, eCb, f1, f2, eCallP, eSl, eSlS, pNone, pSome, sSub, eFld, fnD, fnDC, startD, pick, eChain, eIsi, eProp, noX, eMt, eM0, sFor, iSeq, iRange1, iRange2, eDct0, onlyS, onlyB, addD_int, subD_int, ltD_int, gtD_int, leD_int, geD_int, ixD_tup, ixD_lst, ixD_scr, atI_0, atI_1, atI_2, atI_3, atI_4, atI_5, atI_6, atI_7, atI_8, toIntD_int, truD_bl, List.getElem?_cons_zero, List.getElem?_cons_succ, List.getElem?_nil, List.set_cons_zero, List.set_cons_succ, List.length_cons, List.length_nil, List.map_cons, List.map_nil, List.replicate, List.append_nil, List.nil_append, List.cons_append, List.filterMap_cons, List.filterMap_nil, Nat.sub_self, Nat.zero_add, Nat.reduceAdd, Nat.reduceSub, Option.map_some, Option.map_none, if_true, if_false, ite_true, ite_false, reduceIte, Bool.false_eq_true, Nat.reduceLeDiff, Nat.reduceLT, Int.reduceLE, Int.reduceLT, Int.reduceEq, Nat.reduceBEq, Nat.reduceEqDiff, beq_self_eq_true, Bool.and_self, Bool.and_true, Bool.true_and, Bool.not_true, Bool.not_false, Bool.or_true, Bool.true_or, Bool.false_or, Bool.or_false, Bool.and_false, Bool.false_and, decide_true, decide_false, e1, entryD]
      · rw [Nat.zero_add, tk, List.map_append, en]; rfl
      · rcases List.mem_append.mp he with q | q
        · exact ho e q
        · rw [List.mem_singleton.mp q]; exact ok)
  refine ⟨es, T1, ?_, ⟨?_, ho⟩, p1⟩
  · have e0 := eLc_eq (fi := iSeq (eVar 1)) (vs := [3]) (ρ := [some (.ref n), some (.lst (ns.map .str)), some (.lst (ks.map .str)), none]) (S := T) (S1 := T) (xs := ns.map .str) rfl el
    simp only [peopleF, peopleB, eVar, eC, eBin, eBinR, eB, eTru, eNotT, eOrT, eAndT, eNot, eAnd, eOr, eIf, sSeq, sSet, sIf, sRet, sRetN, sExpr, sNil, sPar, sPar3, sAsg, sAsq, gTu, gCn, gN, gNl, qTu, qCn, qN, qNl, qSub, aCons, aNil, aApp, eTup, eLst, eCel, ofO, ofP, Res.bind, Res.out, Res.bind0, eCb, f1, f2, eCallP, eSl, eSlS, pNone, pSome, sSub, eFld, fnD, fnDC, startD, pick, eChain, eIsi, eProp, noX, eMt, eM0, sFor, iSeq, iRange1, iRange2, eDct0, onlyS, onlyB, addD_int, subD_int, ltD_int, gtD_int, leD_int, geD_int, ixD_tup, ixD_lst, ixD_scr, atI_0, atI_1, atI_2, atI_3, atI_4, atI_5, atI_6, atI_7, atI_8, toIntD_int, truD_bl, List.getElem?_cons_zero, List.getElem?_cons_succ, List.getElem?_nil, List.set_cons_zero, List.set_cons_succ, List.length_cons, List.length_nil, List.map_cons, List.map_nil, List.replicate, List.append_nil, List.nil_append, List.cons_append, List.filterMap_cons, List.filterMap_nil, Nat.sub_self, Nat.zero_add, Nat.reduceAdd, Nat.reduceSub, Option.map_some, Option.map_none, if_true, if_false, ite_true, ite_false, reduceIte, Bool.false_eq_true, Nat.reduceLeDiff, Nat.reduceLT, Int.reduceLE, Int.reduceLT, Int.reduceEq, Nat.reduceBEq, Nat.reduceEqDiff, beq_self_eq_true, Bool.and_self, Bool.and_true, Bool.true_and, Bool.not_true, Bool.not_false, Bool.or_true, Bool.true_or, Bool.false_or, Bool.or_false, Bool.and_false, Bool.false_and, decide_true, decide_false, e0]
    exact leave_same (h.lens p1)
  · rw [en]
    exact List.take_of_length_le (by simp)

/-! ### rules of houses -/
def IsW (s : Str) : Prop := s = "keep" ∨ s = "back" ∨ s = "out"
structure RulesOk (m : Int) (w d : Int) (s e : Str) : Prop where
  w : w = 1 ∨ w = 2 ∨ w = 3
  d1 : 1 ≤ d
  d2 : d ≤ m
  s : IsW s
  e : IsW e
theorem IsW.len {s : Str} (h : IsW s) : s.length ≤ 4 := by
  rcases h with rfl | rfl | rfl <;> decide +kernel
theorem IsW.ok {s : Str} (h : IsW s) : PyData.strOk s = true := by
  rcases h with rfl | rfl | rfl <;> decide +kernel
theorem word_ix {k : Int} (h0 : 0 ≤ k) (h1 : k < 3) : ∃ s, atI [D.str "keep", .str "back", .str "out"] k = some (.str s) ∧ IsW s := by
  have : k = 0 ∨ k = 1 ∨ k = 2 := by omega
  rcases this with rfl | rfl | rfl
  · exact ⟨_, rfl, .inl rfl⟩
  · exact ⟨_, rfl, .inr (.inl rfl)⟩
  · exact ⟨_, rfl, .inr (.inr rfl)⟩
def rulesB : EvS :=
    (sSeq (sSet 2 (eLst (aCons (eC (.str "keep")) (aCons (eC (.str "back")) (aCons (eC (.str "out")) aNil)))))
    (sSeq (sSet 3 (eCel (aCons (eBin addD (eC (.int 1)) (eCallP 2 0 pickF [] [0, 1] 2 (aCons (eVar 0) (aCons (eC (.int 3)) aNil)) aNil)) (aCons (eBin addD (eC (.int 1)) (eCallP 2 0 pickF [] [0, 1] 2 (aCons (eVar 0) (aCons (eVar 1) aNil)) aNil)) aNil))))
    (sSeq (sExpr (eMt "list" appendF (eVar 3) (aCons (eBin ixD (eVar 2) (eCallP 2 0 pickF [] [0, 1] 2 (aCons (eVar 0) (aCons (eC (.int 3)) aNil)) aNil)) aNil)))
    (sRet (eTup (aCons (eBin ixD (eVar 3) (eC (.int 0))) (aCons (eBin ixD (eVar 3) (eC (.int 1))) (aCons (eBin ixD (eVar 3) (eC (.int 2))) (aCons (eBin ixD (eVar 2) (eCallP 2 0 pickF [] [0, 1] 2 (aCons (eVar 0) (aCons (eC (.int 3)) aNil)) aNil)) aNil)))))))))
def rulesF : FD := fnD 4 rulesB
theorem rules_gen {S T : Store} {n : Nat} {m : Int} (h : PP S n T) (m1 : 1 ≤ m) (m2 : m ≤ 9) : ∃ w d s e T', rulesF [.ref n, .int m] T = .ok (.tup [.int w, .int d, .str s, .str e], T') ∧ RulesOk m w d s e ∧ PP S n T' := by
  obtain ⟨k1, T1, e1, a1, b1, h1⟩ := pick_spec (many := 3) h (by omega) (by omega)
  obtain ⟨k2, T2, e2, a2, b2, h2⟩ := pick_spec (many := m) h1 (by omega) (by omega)
  obtain ⟨k3, T3, e3, a3, b3, h3⟩ := pick_app [.lst [.int (1 + k1), .int (1 + k2)]] (many := 3) h2 (by omega) (by omega)
  obtain ⟨s, es, hs⟩ := word_ix a3 b3
  obtain ⟨k4, T4, e4, a4, b4, h4⟩ := pick_app [.lst [.int (1 + k1), .int (1 + k2), .str s]] (many := 3) h3 (by omega) (by omega)
  obtain ⟨e, ee, he⟩ := word_ix a4 b4
  refine ⟨1 + k1, 1 + k2, s, e, T4, ?_, ⟨by omega, by omega, by omega, hs, he⟩, h4⟩
  have g : ∀ {T : Store} {c : Cell}, PP S n T → (T ++ [c])[S.length]? = some c := fun h => get_end h.len
  have g2 : ∀ {T : Store} {c d : Cell}, PP S n T → (T ++ [c]).set S.length d = T ++ [d] := fun h => set_end h.len
  simp only [rulesF, rulesB, eVar, eC, eBin, eBinR, eB, eTru, eNotT, eOrT, eAndT, eNot, eAnd, eOr, eIf, sSeq, sSet, sIf, sRet, sRetN, sExpr, sNil, sPar, sPar3, sAsg, sAsq, gTu, gCn, gN, gNl, qTu, qCn, qN, qNl, qSub, aCons, aNil, aApp, eTup, eLst, eCel, ofO, ofP, Res.bind, Res.out, Res.bind0, eCb, f1, f2, eCallP, eSl, eSlS, pNone, pSome, sSub, eFld, fnD, fnDC, startD, pick, eChain, eIsi, eProp, noX, eMt, eM0, sFor, iSeq, iRange1, iRange2, eDct0, onlyS, onlyB, addD_int, subD_int, ltD_int, gtD_int, leD_int, geD_int, ixD_tup, ixD_lst, ixD_scr, atI_0, atI_1, atI_2, atI_3, atI_4, atI_5, atI_6, atI_7, atI_8, toIntD_int, truD_bl, List.getElem?_cons_zero, List.getElem?_cons_succ, List.getElem?_nil, List.set_cons_zero, List.set_cons_succ, List.length_cons, List.length_nil, List.map_cons, List.map_nil, List.replicate, List.append_nil, List.nil_append, List.cons_append, List.filterMap_cons, List.filterMap_nil, Nat.sub_self, Nat.zero_add, Nat.reduceAdd, Nat.reduceSub, Option.map_some, Option.map_none, if_true, if_false, ite_true, ite_false, reduceIte, Bool.false_eq_true, Nat.reduceLeDiff, Nat.reduceLT, Int.reduceLE, Int.reduceLT, Int.reduceEq, Nat.reduceBEq, Nat.reduceEqDiff, beq_self_eq_true, Bool.and_self, Bool.and_true, Bool.true_and, Bool.not_true, Bool.not_false, Bool.or_true, Bool.true_or, Bool.false_or, Bool.or_false, Bool.and_false, Bool.false_and, decide_true, decide_false, e1, e2, e3, e4, es, ee, h2.len, isT_ref (g h2), isT_ref (g h3), appendF_ref (g h3) (show [D.int (1 + k1), D.int (1 + k2)].length < 16777216 by simp), g2 h3, ixD_ref (g h3), ixD_ref (g h4)]
  rw [leave_flat (h.lens h4) (by simp) (h.old h4 _) rfl]
end Pd
end
section
namespace K05
open PySem PySem.Spec PyProof.Rows L2 Pd
open PySem.W (Frag)
def top (i : Nat) : Stmt := PySem.Challenge.pw_offerlists_k05_lists_at_their_beginning.main.body.getD i (.Pass ⟨0, 0, 0, 0⟩)
def clsAt (i j : Nat) : Stmt := match top i with
  | .ClassDef _ _ _ b .. => b.getD j (.Pass ⟨0, 0, 0, 0⟩)
  | s => s

def nmL : List Str := ["_wave", "_days", "_silent", "_declined", "number", "kind", "asked", "last_days", "rules", "people", "stock", "handed", "answers", "_house", "_entries", "_places", "_day", "given", "index"]
def xnL : List Str := ["index"]
def lamQ : List Str := []
abbrev TT (cs : List (Addr × Addr)) : List (Addr × Str) := (cs.map (·.2)).zip lamQ
def GG (cs : List (Addr × Addr)) (xa : Option (Addr × Nat × Option Addr)) (K : Frag) : Ga := { K := K, cls := [He.ga K "House", He.ga K "Place", He.ga K "Day", He.ga K "Waiting"], xc := [He.ga K "NotRight", He.ga K "InvalidWave", He.ga K "InvalidDays", He.ga K "InvalidWord", He.ga K "InvalidText", He.ga K "NotAHouse", He.ga K "InvalidEntries", He.ga K "InvalidEvents"], nm := nmL, ho := [], tab := TT cs, xn := xnL, xa := xa }
theorem hx_0 : xnL.contains "_wave" = false := by decide +kernel
theorem hx_1 : xnL.contains "_days" = false := by decide +kernel
theorem hx_2 : xnL.contains "_silent" = false := by decide +kernel
theorem hx_3 : xnL.contains "_declined" = false := by decide +kernel
theorem hx_4 : xnL.contains "number" = false := by decide +kernel
theorem hx_5 : xnL.contains "kind" = false := by decide +kernel
theorem hx_6 : xnL.contains "asked" = false := by decide +kernel
theorem hx_7 : xnL.contains "last_days" = false := by decide +kernel
theorem hx_8 : xnL.contains "rules" = false := by decide +kernel
theorem hx_9 : xnL.contains "people" = false := by decide +kernel
theorem hx_10 : xnL.contains "stock" = false := by decide +kernel
theorem hx_11 : xnL.contains "handed" = false := by decide +kernel
theorem hx_12 : xnL.contains "answers" = false := by decide +kernel
theorem hx_13 : xnL.contains "_house" = false := by decide +kernel
theorem hx_14 : xnL.contains "_entries" = false := by decide +kernel
theorem hx_15 : xnL.contains "_places" = false := by decide +kernel
theorem hx_16 : xnL.contains "_day" = false := by decide +kernel
theorem hx_17 : xnL.contains "given" = false := by decide +kernel
theorem nmL_nd : nmL.Nodup := by decide +kernel
def tab_House : Kd → Option Bool
  | .ins 0 => some true
  | _ => some false
def tab_Waiting : Kd → Option Bool
  | .ins 3 => some true
  | _ => some false
def tab_str : Kd → Option Bool
  | .str => some true
  | _ => some false
def tab_bool : Kd → Option Bool
  | .bl => some true
  | _ => some false
def tab_int : Kd → Option Bool
  | .int => some true
  | .bl => some true
  | _ => some false
def tab_tuple : Kd → Option Bool
  | .tup => some true
  | _ => some false
abbrev s_Housezz_eqzz : Stmt := clsAt 27 6
def d_Housezz_eqzz : DefP := ⟨fun K => He.ma K (He.ga K "House") "__eq__", "__eq__", "House.__eq__", defArgs s_Housezz_eqzz, defBody s_Housezz_eqzz, defScope s_Housezz_eqzz, []⟩
def N_Housezz_eqzz : List Str := ["self", "other"]
def b_Housezz_eqzz : EvS :=
    (sRet (eAnd (eIsi tab_House (eVar 1)) (eAnd (eBin eqD (eFld 0 (eVar 0)) (eFld 0 (eVar 1))) (eAnd (eBin eqD (eFld 1 (eVar 0)) (eFld 1 (eVar 1))) (eAnd (eBin eqD (eFld 2 (eVar 0)) (eFld 2 (eVar 1))) (eBin eqD (eFld 3 (eVar 0)) (eFld 3 (eVar 1))))))))
def f_Housezz_eqzz : FD := fnD 2 b_Housezz_eqzz
abbrev s_Waitingzz_eqzz : Stmt := clsAt 51 9
def d_Waitingzz_eqzz : DefP := ⟨fun K => He.ma K (He.ga K "Waiting") "__eq__", "__eq__", "Waiting.__eq__", defArgs s_Waitingzz_eqzz, defBody s_Waitingzz_eqzz, defScope s_Waitingzz_eqzz, []⟩
def N_Waitingzz_eqzz : List Str := ["self", "other"]
def b_Waitingzz_eqzz : EvS :=
    (sRet (eAnd (eIsi tab_Waiting (eVar 1)) (eAnd (eBinR (eqO [(0, f_Housezz_eqzz)]) (eFld 13 (eVar 0)) (eFld 13 (eVar 1))) (eAnd (eBin eqD (eFld 14 (eVar 0)) (eFld 14 (eVar 1))) (eAnd (eBin eqD (eFld 15 (eVar 0)) (eFld 15 (eVar 1))) (eAnd (eBin eqD (eFld 16 (eVar 0)) (eFld 16 (eVar 1))) (eBin eqD (eFld 17 (eVar 0)) (eFld 17 (eVar 1)))))))))
def f_Waitingzz_eqzz : FD := fnD 2 b_Waitingzz_eqzz
abbrev s_is_word : Stmt := top 28
def d_is_word : DefP := ⟨fun K => He.ga K "is_word", "is_word", "is_word", defArgs s_is_word, defBody s_is_word, defScope s_is_word, []⟩
def N_is_word : List Str := ["value"]
def b_is_word : EvS :=
    (sRet (eAnd (eIsi tab_str (eVar 0)) (eBin inD (eVar 0) (eC (.tup [(.str "keep"), (.str "back"), (.str "out")])))))
def f_is_word : FD := fnD 1 b_is_word
abbrev s_InvalidWordzz_initzz : Stmt := clsAt 5 0
def d_InvalidWordzz_initzz : DefP := ⟨fun K => He.ma K (He.ga K "InvalidWord") "__init__", "__init__", "InvalidWord.__init__", defArgs s_InvalidWordzz_initzz, defBody s_InvalidWordzz_initzz, defScope s_InvalidWordzz_initzz, []⟩
def N_InvalidWordzz_initzz : List Str := ["self", "given"]
abbrev s_is_integer : Stmt := top 19
def d_is_integer : DefP := ⟨fun K => He.ga K "is_integer", "is_integer", "is_integer", defArgs s_is_integer, defBody s_is_integer, defScope s_is_integer, []⟩
def N_is_integer : List Str := ["value"]
def b_is_integer : EvS :=
    (sRet (eAnd (eIsi tab_int (eVar 0)) (eNot (eIsi tab_bool (eVar 0)))))
def f_is_integer : FD := fnD 1 b_is_integer
abbrev s_is_number : Stmt := top 20
def d_is_number : DefP := ⟨fun K => He.ga K "is_number", "is_number", "is_number", defArgs s_is_number, defBody s_is_number, defScope s_is_number, []⟩
def N_is_number : List Str := ["value", "least", "most"]
def b_is_number : EvS :=
    (sRet (eAnd (eCallP 1 0 f_is_integer [] [0] 1 (aCons (eVar 0) aNil) aNil) (eChain leD leD (eVar 1) (eVar 0) (eVar 2))))
def f_is_number : FD := fnD 3 b_is_number
abbrev s_InvalidDayszz_initzz : Stmt := clsAt 4 0
def d_InvalidDayszz_initzz : DefP := ⟨fun K => He.ma K (He.ga K "InvalidDays") "__init__", "__init__", "InvalidDays.__init__", defArgs s_InvalidDayszz_initzz, defBody s_InvalidDayszz_initzz, defScope s_InvalidDayszz_initzz, []⟩
def N_InvalidDayszz_initzz : List Str := ["self", "given"]
abbrev s_InvalidWavezz_initzz : Stmt := clsAt 3 0
def d_InvalidWavezz_initzz : DefP := ⟨fun K => He.ma K (He.ga K "InvalidWave") "__init__", "__init__", "InvalidWave.__init__", defArgs s_InvalidWavezz_initzz, defBody s_InvalidWavezz_initzz, defScope s_InvalidWavezz_initzz, []⟩
def N_InvalidWavezz_initzz : List Str := ["self", "given"]
abbrev s_Housezz_initzz : Stmt := clsAt 27 0
def d_Housezz_initzz : DefP := ⟨fun K => He.ma K (He.ga K "House") "__init__", "__init__", "House.__init__", defArgs s_Housezz_initzz, defBody s_Housezz_initzz, defScope s_Housezz_initzz, [(.str "keep"), (.str "keep")]⟩
def N_Housezz_initzz : List Str := ["self", "wave", "days", "silent", "declined", "word"]
def b_Housezz_initzz : EvS :=
    (sSeq (sIf (eNotT (eTru (eCallP 3 0 f_is_number [] [0, 1, 2] 3 (aCons (eVar 1) (aCons (eC (.int 1)) (aCons (eC (.int 3)) aNil))) aNil))) (sRaise1 1 17 (aCons (eVar 1) aNil)) sNil)
    (sSeq (sIf (eNotT (eTru (eCallP 3 0 f_is_number [] [0, 1, 2] 3 (aCons (eVar 2) (aCons (eC (.int 1)) (aCons (eC (.int 9)) aNil))) aNil))) (sRaise1 2 17 (aCons (eVar 2) aNil)) sNil)
    (sSeq (sFor (iSeq (eTup (aCons (eVar 3) (aCons (eVar 4) aNil)))) (gN 5) (sIf (eNotT (eTru (eCallP 1 0 f_is_word [] [0] 1 (aCons (eVar 5) aNil) aNil))) (sRaise1 3 17 (aCons (eVar 5) aNil)) sNil))
    (sSeq (sFldD 0 (eVar 0) (eVar 1))
    (sSeq (sFldD 1 (eVar 0) (eVar 2))
    (sSeq (sFldD 2 (eVar 0) (eVar 3))
    (sFldD 3 (eVar 0) (eVar 4))))))))
def f_Housezz_initzz : FD := fnD 6 b_Housezz_initzz
abbrev s__law_house : Stmt := top 64
def d__law_house : DefP := ⟨fun K => He.ga K "_law_house", "_law_house", "_law_house", defArgs s__law_house, defBody s__law_house, defScope s__law_house, []⟩
def N__law_house : List Str := ["_law_rules_here"]
def b__law_house : EvS :=
    (sRet (eMakeP 0 4 0 f_Housezz_initzz [(.str "keep"), (.str "keep")] [0, 1, 2, 3, 4] 5 (aCons (eBin ixD (eVar 0) (eC (.int 0))) (aCons (eBin ixD (eVar 0) (eC (.int 1))) (aCons (eBin ixD (eVar 0) (eC (.int 2))) (aCons (eBin ixD (eVar 0) (eC (.int 3))) aNil)))) aNil))
def f__law_house : FD := fnD 1 b__law_house
abbrev s_Housezz_reprzz : Stmt := clsAt 27 8
def d_Housezz_reprzz : DefP := ⟨fun K => He.ma K (He.ga K "House") "__repr__", "__repr__", "House.__repr__", defArgs s_Housezz_reprzz, defBody s_Housezz_reprzz, defScope s_Housezz_reprzz, []⟩
def N_Housezz_reprzz : List Str := ["self"]
def b_Housezz_reprzz : EvS :=
    (sRet (eJs [(eC (.str "House of ")), (eFmt (eFld 1 (eVar 0))), (eC (.str " days"))] Str.empty))
def f_Housezz_reprzz : FD := fnD 1 b_Housezz_reprzz
abbrev s_Waitingzz_reprzz : Stmt := clsAt 51 10
def d_Waitingzz_reprzz : DefP := ⟨fun K => He.ma K (He.ga K "Waiting") "__repr__", "__repr__", "Waiting.__repr__", defArgs s_Waitingzz_reprzz, defBody s_Waitingzz_reprzz, defScope s_Waitingzz_reprzz, []⟩
def N_Waitingzz_reprzz : List Str := ["self"]
def b_Waitingzz_reprzz : EvS :=
    (sRet (eJs [(eC (.str "Waiting of ")), (eFmt (eCb lenF (aCons (eFld 14 (eVar 0)) aNil))), (eC (.str " entries on day ")), (eFmt (eFld 16 (eVar 0)))] Str.empty))
def f_Waitingzz_reprzz : FD := fnD 1 b_Waitingzz_reprzz
abbrev s_InvalidEntrieszz_initzz : Stmt := clsAt 8 0
def d_InvalidEntrieszz_initzz : DefP := ⟨fun K => He.ma K (He.ga K "InvalidEntries") "__init__", "__init__", "InvalidEntries.__init__", defArgs s_InvalidEntrieszz_initzz, defBody s_InvalidEntrieszz_initzz, defScope s_InvalidEntrieszz_initzz, []⟩
def N_InvalidEntrieszz_initzz : List Str := ["self", "index"]
abbrev s_is_name : Stmt := top 22
def d_is_name : DefP := ⟨fun K => He.ga K "is_name", "is_name", "is_name", defArgs s_is_name, defBody s_is_name, defScope s_is_name, []⟩
def N_is_name : List Str := ["value", "sign"]
def b_is_name : EvS :=
    (sSeq (sIf (eOrT (eNotT (eTru (eIsi tab_str (eVar 0)))) (eNotT (eB (eChain leD leD (eC (.int 1)) (eCb lenF (aCons (eVar 0) aNil)) (eC (.int 8)))))) (sRet (eC (.bl false))) sNil)
    (sRet (eAnd (eBin inD (eBin ixD (eVar 0) (eC (.int 0))) (eC (.str "abcdefghijklmnopqrstuvwxyz"))) (eCb allF (aCons (eLc (iSeq (eVar 0)) [1] (gN 1) eYes (eBin inD (eVar 1) (eC (.str "abcdefghijklmnopqrstuvwxyz0123456789")))) aNil)))))
def f_is_name : FD := fnD 2 b_is_name
abbrev s_is_lot : Stmt := top 23
def d_is_lot : DefP := ⟨fun K => He.ga K "is_lot", "is_lot", "is_lot", defArgs s_is_lot, defBody s_is_lot, defScope s_is_lot, []⟩
def N_is_lot : List Str := ["value", "kind", "at"]
def b_is_lot : EvS :=
    (sSeq (sIf (eOrT (eNotT (eTru (eIsi tab_tuple (eVar 0)))) (eNotT (eB (eChain leD leD (eC (.int 1)) (eCb lenF (aCons (eVar 0) aNil)) (eC (.int 4)))))) (sRet (eC (.bl false))) sNil)
    (sSeq (sIf (eNotT (eTru (eCb allF (aCons (eLc (iSeq (eVar 0)) [1] (gN 1) eYes (eCallP 1 0 f_is_name [] [0] 1 (aCons (eVar 1) aNil) aNil)) aNil)))) (sRet (eC (.bl false))) sNil)
    (sRet (eCb allF (aCons (eLc (iRange2 (aCons (eC (.int 1)) (aCons (eCb lenF (aCons (eVar 0) aNil)) aNil))) [2] (gN 2) eYes (eBin ltD (eBin ixD (eVar 0) (eBin subD (eVar 2) (eC (.int 1)))) (eBin ixD (eVar 0) (eVar 2)))) aNil)))))
def f_is_lot : FD := fnD 3 b_is_lot
abbrev s_is_pair : Stmt := top 21
def d_is_pair : DefP := ⟨fun K => He.ga K "is_pair", "is_pair", "is_pair", defArgs s_is_pair, defBody s_is_pair, defScope s_is_pair, []⟩
def N_is_pair : List Str := ["value"]
def b_is_pair : EvS :=
    (sRet (eAnd (eIsi tab_tuple (eVar 0)) (eBin eqD (eCb lenF (aCons (eVar 0) aNil)) (eC (.int 2)))))
def f_is_pair : FD := fnD 1 b_is_pair
abbrev s_check_entries : Stmt := top 52
def d_check_entries : DefP := ⟨fun K => He.ga K "check_entries", "check_entries", "check_entries", defArgs s_check_entries, defBody s_check_entries, defScope s_check_entries, []⟩
def N_check_entries : List Str := ["entries", "names", "at", "entry"]
def b_check_entries : EvS :=
    (sSeq (sIf (eNotT (eTru (eIsi tab_tuple (eVar 0)))) (sRaise1 6 18 (aCons (eC .non) aNil)) sNil)
    (sSeq (sSet 1 (eCel aNil))
    (sFor (iEnum (aCons (eVar 0) aNil)) (gTu 2 (gCn (gN 2) (gCn (gN 3) gNl))) (sSeq (sIf (eOrT (eB (eBin eqD (eVar 2) (eC (.int 30)))) (eOrT (eNotT (eTru (eCallP 1 0 f_is_pair [] [0] 1 (aCons (eVar 3) aNil) aNil))) (eOrT (eNotT (eTru (eCallP 1 0 f_is_name [] [0] 1 (aCons (eBin ixD (eVar 3) (eC (.int 0))) aNil) aNil))) (eNotT (eTru (eCallP 1 0 f_is_lot [] [0] 1 (aCons (eBin ixD (eVar 3) (eC (.int 1))) aNil) aNil)))))) (sRaise1 6 18 (aCons (eVar 2) aNil)) sNil)
    (sSeq (sIf (eB (eBin inD (eBin ixD (eVar 3) (eC (.int 0))) (eVar 1))) (sRaise1 6 18 (aCons (eVar 2) aNil)) sNil)
    (sExpr (eMt "list" appendF (eVar 1) (aCons (eBin ixD (eVar 3) (eC (.int 0))) aNil))))))))
def f_check_entries : FD := fnD 4 b_check_entries
abbrev s_NotAHousezz_initzz : Stmt := clsAt 7 0
def d_NotAHousezz_initzz : DefP := ⟨fun K => He.ma K (He.ga K "NotAHouse") "__init__", "__init__", "NotAHouse.__init__", defArgs s_NotAHousezz_initzz, defBody s_NotAHousezz_initzz, defScope s_NotAHousezz_initzz, []⟩
def N_NotAHousezz_initzz : List Str := ["self", "given"]
abbrev s_check_house : Stmt := top 31
def d_check_house : DefP := ⟨fun K => He.ga K "check_house", "check_house", "check_house", defArgs s_check_house, defBody s_check_house, defScope s_check_house, []⟩
def N_check_house : List Str := ["house"]
def b_check_house : EvS :=
    (sIf (eNotT (eTru (eIsi tab_House (eVar 0)))) (sRaise1 5 17 (aCons (eVar 0) aNil)) sNil)
def f_check_house : FD := fnD 1 b_check_house
abbrev s_Waitingzz_initzz : Stmt := clsAt 51 0
def d_Waitingzz_initzz : DefP := ⟨fun K => He.ma K (He.ga K "Waiting") "__init__", "__init__", "Waiting.__init__", defArgs s_Waitingzz_initzz, defBody s_Waitingzz_initzz, defScope s_Waitingzz_initzz, []⟩
def N_Waitingzz_initzz : List Str := ["self", "house", "entries"]
def b_Waitingzz_initzz : EvS :=
    (sSeq (sExpr (eCallP 1 0 f_check_house [] [0] 1 (aCons (eVar 1) aNil) aNil))
    (sSeq (sExpr (eCallP 1 0 f_check_entries [] [0] 1 (aCons (eVar 2) aNil) aNil))
    (sSeq (sFldD 13 (eVar 0) (eVar 1))
    (sSeq (sFldD 14 (eVar 0) (eVar 2))
    (sSeq (sFldD 15 (eVar 0) (eTup aNil))
    (sSeq (sFldD 16 (eVar 0) (eC (.int 1)))
    (sFldD 17 (eVar 0) (eTup aNil))))))))
def f_Waitingzz_initzz : FD := fnD 3 b_Waitingzz_initzz
abbrev s__law_pick : Stmt := top 58
def d__law_pick : DefP := ⟨fun K => He.ga K "_law_pick", "_law_pick", "_law_pick", defArgs s__law_pick, defBody s__law_pick, defScope s__law_pick, []⟩
def N__law_pick : List Str := ["_law_purse_here", "_law_many", "_law_state", "_law_turn", "_law_grown", "_law_digit"]
def b__law_pick : EvS :=
    (sSeq (sSub (eBin addD (eBin ixD (eVar 0) (eC (.int 2))) (eC (.int 1))) (eVar 0) (eC (.int 2)))
    (sSeq (sPar 2 3 (aCons (eCb (f1 toIntD) (aCons (eBin ixD (eVar 0) (eC (.int 0))) aNil)) (aCons (eBin ixD (eVar 0) (eC (.int 2))) aNil)))
    (sSeq (sSet 4 (eBin mulD (eBin addD (eVar 2) (eBin mulD (eC (.int 6997)) (eVar 3))) (eBin addD (eBin modD (eCb (f1 toIntD) (aCons (eVar 2) aNil)) (eC (.int 44497))) (eC (.int 21001)))))
    (sSeq (sSub (eBin modD (eCb (f1 toIntD) (aCons (eBin addD (eBin addD (eVar 4) (eBin mulD (eC (.int 70001)) (eVar 3))) (eC (.int 5))) aNil)) (eC (.int 2147483629))) (eVar 0) (eC (.int 0)))
    (sSeq (sIf (eB (eBin gtD (eBin ixD (eVar 0) (eC (.int 1))) (eC (.int 0)))) (sSeq (sAsq (eCb (f2 divmodD) (aCons (eBin ixD (eVar 0) (eC (.int 1))) (aCons (eVar 1) aNil))) (qTu 2 (qCn (qSub (eVar 0) (eC (.int 1))) (qCn (qN 5) qNl))))
    (sRet (eVar 5))) sNil)
    (sRet (eBin modD (eCb (f1 toIntD) (aCons (eBin fdivD (eBin ixD (eVar 0) (eC (.int 0))) (eC (.int 128))) aNil)) (eVar 1))))))))
def f__law_pick : FD := fnD 6 b__law_pick
abbrev s_Housezz_strzz : Stmt := clsAt 27 7
def d_Housezz_strzz : DefP := ⟨fun K => He.ma K (He.ga K "House") "__str__", "__str__", "House.__str__", defArgs s_Housezz_strzz, defBody s_Housezz_strzz, defScope s_Housezz_strzz, []⟩
def N_Housezz_strzz : List Str := ["self"]
def b_Housezz_strzz : EvS :=
    (sRet (eJs [(eC (.str "house wave ")), (eFmt (eFld 0 (eVar 0))), (eC (.str " days ")), (eFmt (eFld 1 (eVar 0))), (eC (.str " silent ")), (eFmt (eFld 2 (eVar 0))), (eC (.str " declined ")), (eFmt (eFld 3 (eVar 0)))] Str.empty))
def f_Housezz_strzz : FD := fnD 1 b_Housezz_strzz
abbrev s__law_spare : Stmt := top 67
def d__law_spare : DefP := ⟨fun K => He.ga K "_law_spare", "_law_spare", "_law_spare", defArgs s__law_spare, defBody s__law_spare, defScope s__law_spare, []⟩
def N__law_spare : List Str := ["_law_found", "_law_k"]
def b__law_spare : EvS :=
    (sSeq (sFor (iRange1 (aCons (eBin addD (eCb lenF (aCons (eVar 0) aNil)) (eC (.int 1))) aNil)) (gN 1) (sIf (eB (eBin notInD (eBin addD (eC (.str "n")) (dunE [(0, f_Housezz_strzz)] (f1 strD) (eBin addD (eCb lenF (aCons (eVar 0) aNil)) (eVar 1)))) (eVar 0))) (sRet (eBin addD (eC (.str "n")) (dunE [(0, f_Housezz_strzz)] (f1 strD) (eBin addD (eCb lenF (aCons (eVar 0) aNil)) (eVar 1))))) sNil))
    (sRet (eC (.str "n"))))
def f__law_spare : FD := fnD 2 b__law_spare
abbrev s__law_near_lists : Stmt := top 68
def d__law_near_lists : DefP := ⟨fun K => He.ga K "_law_near_lists", "_law_near_lists", "_law_near_lists", defArgs s__law_near_lists, defBody s__law_near_lists, defScope s__law_near_lists, []⟩
def N__law_near_lists : List Str := ["_law_purse_here", "_law_rules_here", "_law_crowd", "_law_words", "_law_word_here", "_law_found", "_law_who", "_law_lot_here", "_law_at", "_law_wishes", "_law_other"]
def b__law_near_lists : EvS :=
    (sSeq (sSet 3 (eLst (aCons (eC (.str "keep")) (aCons (eC (.str "back")) (aCons (eC (.str "out")) aNil)))))
    (sSeq (sSet 4 (eBin ixD (eVar 3) (eBin modD (eCb (f1 toIntD) (aCons (eBin addD (eBin addD (eMt "list" indexF (eVar 3) (aCons (eBin ixD (eVar 1) (eC (.int 2))) aNil)) (eC (.int 1))) (eCallP 2 0 f__law_pick [] [0, 1] 2 (aCons (eVar 0) (aCons (eC (.int 2)) aNil)) aNil)) aNil)) (eC (.int 3)))))
    (sSeq (sSet 5 (eCel (aCons (eMakeP 3 2 0 f_Waitingzz_initzz [] [0, 1, 2] 3 (aCons (eMakeP 0 4 0 f_Housezz_initzz [(.str "keep"), (.str "keep")] [0, 1, 2, 3, 4] 5 (aCons (eBin ixD (eVar 1) (eC (.int 0))) (aCons (eBin ixD (eVar 1) (eC (.int 1))) (aCons (eVar 4) (aCons (eBin ixD (eVar 1) (eC (.int 3))) aNil)))) aNil) (aCons (eVar 2) aNil)) aNil) aNil)))
    (sSeq (sExpr (eMt "list" appendF (eVar 5) (aCons (eMakeP 3 2 0 f_Waitingzz_initzz [] [0, 1, 2] 3 (aCons (eCallP 1 0 f__law_house [] [0] 1 (aCons (eLst (aCons (eBin addD (eBin modD (eCb (f1 toIntD) (aCons (eBin ixD (eVar 1) (eC (.int 0))) aNil)) (eC (.int 3))) (eC (.int 1))) (aCons (eBin ixD (eVar 1) (eC (.int 1))) (aCons (eBin ixD (eVar 1) (eC (.int 2))) (aCons (eBin ixD (eVar 1) (eC (.int 3))) aNil))))) aNil) aNil) (aCons (eVar 2) aNil)) aNil) aNil)))
    (sSeq (sIf (eB (eBin ltD (eCb lenF (aCons (eVar 2) aNil)) (eC (.int 30)))) (sExpr (eMt "list" appendF (eVar 5) (aCons (eMakeP 3 2 0 f_Waitingzz_initzz [] [0, 1, 2] 3 (aCons (eCallP 1 0 f__law_house [] [0] 1 (aCons (eVar 1) aNil) aNil) (aCons (eBin addD (eVar 2) (eTup (aCons (eTup (aCons (eCallP 1 0 f__law_spare [] [0] 1 (aCons (eLc (iSeq (eVar 2)) [6, 7] (gTu 2 (gCn (gN 6) (gCn (gN 7) gNl))) eYes (eVar 6)) aNil) aNil) (aCons (eTup (aCons (eC (.str "a")) aNil)) aNil))) aNil))) aNil)) aNil) aNil))) sNil)
    (sSeq (sIf (eB (eBin neD (eVar 2) (eTup aNil))) (sSeq (sSet 8 (eCallP 2 0 f__law_pick [] [0, 1] 2 (aCons (eVar 0) (aCons (eCb lenF (aCons (eVar 2) aNil)) aNil)) aNil))
    (sSeq (sAsg (eBin ixD (eVar 2) (eVar 8)) (gTu 2 (gCn (gN 6) (gCn (gN 9) gNl))))
    (sSeq (sExpr (eMt "list" appendF (eVar 5) (aCons (eMakeP 3 2 0 f_Waitingzz_initzz [] [0, 1, 2] 3 (aCons (eCallP 1 0 f__law_house [] [0] 1 (aCons (eVar 1) aNil) aNil) (aCons (eBin addD (eSl (eVar 2) pNone (pSome (eVar 8))) (eSl (eVar 2) (pSome (eBin addD (eVar 8) (eC (.int 1)))) pNone)) aNil)) aNil) aNil)))
    (sSeq (sSet 10 (eIf (eB (eBin eqD (eVar 9) (eTup (aCons (eC (.str "a")) aNil)))) (eTup (aCons (eC (.str "b")) aNil)) (eTup (aCons (eC (.str "a")) aNil))))
    (sExpr (eMt "list" appendF (eVar 5) (aCons (eMakeP 3 2 0 f_Waitingzz_initzz [] [0, 1, 2] 3 (aCons (eCallP 1 0 f__law_house [] [0] 1 (aCons (eVar 1) aNil) aNil) (aCons (eBin addD (eBin addD (eSl (eVar 2) pNone (pSome (eVar 8))) (eTup (aCons (eTup (aCons (eVar 6) (aCons (eVar 10) aNil))) aNil))) (eSl (eVar 2) (pSome (eBin addD (eVar 8) (eC (.int 1)))) pNone)) aNil)) aNil) aNil))))))) sNil)
    (sSeq (sIf (eB (eBin gtD (eCb lenF (aCons (eVar 2) aNil)) (eC (.int 1)))) (sExpr (eMt "list" appendF (eVar 5) (aCons (eMakeP 3 2 0 f_Waitingzz_initzz [] [0, 1, 2] 3 (aCons (eCallP 1 0 f__law_house [] [0] 1 (aCons (eVar 1) aNil) aNil) (aCons (eBin addD (eSl (eVar 2) (pSome (eC (.int 1))) pNone) (eSl (eVar 2) pNone (pSome (eC (.int 1))))) aNil)) aNil) aNil))) sNil)
    (sRet (eVar 5)))))))))
def f__law_near_lists : FD := fnD 11 b__law_near_lists
abbrev s_InvalidEventszz_initzz : Stmt := clsAt 9 0
def d_InvalidEventszz_initzz : DefP := ⟨fun K => He.ma K (He.ga K "InvalidEvents") "__init__", "__init__", "InvalidEvents.__init__", defArgs s_InvalidEventszz_initzz, defBody s_InvalidEventszz_initzz, defScope s_InvalidEventszz_initzz, []⟩
def N_InvalidEventszz_initzz : List Str := ["self", "index"]
abbrev s_Waiting_led : Stmt := clsAt 51 7
def d_Waiting_led : DefP := ⟨fun K => He.ma K (He.ga K "Waiting") "led", "led", "Waiting.led", defArgs s_Waiting_led, defBody s_Waiting_led, defScope s_Waiting_led, []⟩
def N_Waiting_led : List Str := ["self", "days", "waiting", "at", "events"]
def b_Waiting_led : EvS :=
    (sSeq (sIf (eNotT (eTru (eIsi tab_tuple (eVar 1)))) (sRaise1 7 18 (aCons (eC .non) aNil)) sNil)
    (sSeq (sSet 2 (eVar 0))
    (sSeq (sFor (iEnum (aCons (eVar 1) aNil)) (gTu 2 (gCn (gN 3) (gCn (gN 4) gNl))) sBad)
    (sRet (eVar 2)))))
def f_Waiting_led : FD := fnD 5 b_Waiting_led
abbrev s_Waiting_house : Stmt := clsAt 51 1
def d_Waiting_house : DefP := ⟨fun K => pgA K (He.ma K (He.ga K "Waiting") "house"), "house", "Waiting.house", defArgs s_Waiting_house, defBody s_Waiting_house, defScope s_Waiting_house, []⟩
def N_Waiting_house : List Str := ["self"]
def b_Waiting_house : EvS :=
    (sRet (eFld 13 (eVar 0)))
def f_Waiting_house : FD := fnD 1 b_Waiting_house
abbrev s__law_house_text : Stmt := top 65
def d__law_house_text : DefP := ⟨fun K => He.ga K "_law_house_text", "_law_house_text", "_law_house_text", defArgs s__law_house_text, defBody s__law_house_text, defScope s__law_house_text, []⟩
def N__law_house_text : List Str := ["_law_rules_here", "_law_first"]
def b__law_house_text : EvS :=
    (sSeq (sSet 1 (eBin addD (eBin addD (eBin addD (eC (.str "house wave ")) (dunE [(0, f_Housezz_strzz)] (f1 strD) (eBin ixD (eVar 0) (eC (.int 0))))) (eC (.str " days "))) (dunE [(0, f_Housezz_strzz)] (f1 strD) (eBin ixD (eVar 0) (eC (.int 1))))))
    (sRet (eBin addD (eBin addD (eBin addD (eBin addD (eVar 1) (eC (.str " silent "))) (eBin ixD (eVar 0) (eC (.int 2)))) (eC (.str " declined "))) (eBin ixD (eVar 0) (eC (.int 3))))))
def f__law_house_text : FD := fnD 2 b__law_house_text
abbrev s_House_wave : Stmt := clsAt 27 2
def d_House_wave : DefP := ⟨fun K => pgA K (He.ma K (He.ga K "House") "wave"), "wave", "House.wave", defArgs s_House_wave, defBody s_House_wave, defScope s_House_wave, []⟩
def N_House_wave : List Str := ["self"]
def b_House_wave : EvS :=
    (sRet (eFld 0 (eVar 0)))
def f_House_wave : FD := fnD 1 b_House_wave
abbrev s_next_names : Stmt := top 36
def d_next_names : DefP := ⟨fun K => He.ga K "next_names", "next_names", "next_names", defArgs s_next_names, defBody s_next_names, defScope s_next_names, []⟩
def N_next_names : List Str := ["day", "place", "names", "name"]
def b_next_names : EvS :=
    (sSeq (sSet 2 (eLc (iSeq (eFld 9 (eVar 0))) [3] (gN 3) (eAndT (eB (eBin inD (eFld 5 (eVar 1)) (eBin ixD (eFld 9 (eVar 0)) (eVar 3)))) (eB (eBin notInD (eVar 3) (eFld 6 (eVar 1))))) (eVar 3)))
    (sRet (eSl (eVar 2) pNone (pSome (eProp 0 f_House_wave (eFld 8 (eVar 0)))))))
def f_next_names : FD := fnD 4 b_next_names
abbrev s_House_days : Stmt := clsAt 27 3
def d_House_days : DefP := ⟨fun K => pgA K (He.ma K (He.ga K "House") "days"), "days", "House.days", defArgs s_House_days, defBody s_House_days, defScope s_House_days, []⟩
def N_House_days : List Str := ["self"]
def b_House_days : EvS :=
    (sRet (eFld 1 (eVar 0)))
def f_House_days : FD := fnD 1 b_House_days
abbrev s_morning : Stmt := top 35
def d_morning : DefP := ⟨fun K => He.ga K "morning", "morning", "morning", defArgs s_morning, defBody s_morning, defScope s_morning, []⟩
def N_morning : List Str := ["day", "pairs", "place", "name"]
def b_morning : EvS :=
    (sSeq (sSet 1 (eCel aNil))
    (sSeq (sFor (iSeq (eFld 10 (eVar 0))) (gN 2) (sIf (eNotT (eTru (eFld 7 (eVar 2)))) (sFor (iSeq (eCallP 2 0 f_next_names [] [0, 1] 2 (aCons (eVar 0) (aCons (eVar 2) aNil)) aNil)) (gN 3) (sSeq (sExpr (eMt "list" appendF (eFld 6 (eVar 2)) (aCons (eVar 3) aNil)))
    (sSeq (sSub (eBin subD (eBin addD (eFld 4 (eVar 0)) (eProp 0 f_House_days (eFld 8 (eVar 0)))) (eC (.int 1))) (eFld 7 (eVar 2)) (eVar 3))
    (sExpr (eMt "list" appendF (eVar 1) (aCons (eTup (aCons (eVar 3) (aCons (eFld 4 (eVar 2)) aNil))) aNil)))))) sNil))
    (sRet (eVar 1))))
def f_morning : FD := fnD 4 b_morning
abbrev s_Placezz_initzz : Stmt := clsAt 33 0
def d_Placezz_initzz : DefP := ⟨fun K => He.ma K (He.ga K "Place") "__init__", "__init__", "Place.__init__", defArgs s_Placezz_initzz, defBody s_Placezz_initzz, defScope s_Placezz_initzz, []⟩
def N_Placezz_initzz : List Str := ["self", "number", "kind", "asked", "offers"]
def b_Placezz_initzz : EvS :=
    (sSeq (sFldD 4 (eVar 0) (eVar 1))
    (sSeq (sFldD 5 (eVar 0) (eVar 2))
    (sSeq (sFldD 6 (eVar 0) (eCb listF (aCons (eVar 3) aNil)))
    (sFldD 7 (eVar 0) (eCb dictF (aCons (eVar 4) aNil))))))
def f_Placezz_initzz : FD := fnD 5 b_Placezz_initzz
abbrev s_Dayzz_initzz : Stmt := clsAt 34 0
def d_Dayzz_initzz : DefP := ⟨fun K => He.ma K (He.ga K "Day") "__init__", "__init__", "Day.__init__", defArgs s_Dayzz_initzz, defBody s_Dayzz_initzz, defScope s_Dayzz_initzz, []⟩
def N_Dayzz_initzz : List Str := ["self", "house", "number", "entries", "places", "given", "place"]
def b_Dayzz_initzz : EvS :=
    (sSeq (sFldD 8 (eVar 0) (eVar 1))
    (sSeq (sFldD 4 (eVar 0) (eVar 2))
    (sSeq (sFldD 9 (eVar 0) (eCb dictF (aCons (eVar 3) aNil)))
    (sSeq (sFldD 10 (eVar 0) (eLc (iSeq (eVar 4)) [6] (gN 6) eYes eBad))
    (sSeq (sFldD 11 (eVar 0) (eCb listF (aCons (eVar 5) aNil)))
    (sFldD 12 (eVar 0) eDct0))))))
def f_Dayzz_initzz : FD := fnD 7 b_Dayzz_initzz
abbrev s_Waiting_places : Stmt := clsAt 51 3
def d_Waiting_places : DefP := ⟨fun K => pgA K (He.ma K (He.ga K "Waiting") "places"), "places", "Waiting.places", defArgs s_Waiting_places, defBody s_Waiting_places, defScope s_Waiting_places, []⟩
def N_Waiting_places : List Str := ["self"]
def b_Waiting_places : EvS :=
    (sRet (eFld 15 (eVar 0)))
def f_Waiting_places : FD := fnD 1 b_Waiting_places
abbrev s_Waiting_entries : Stmt := clsAt 51 2
def d_Waiting_entries : DefP := ⟨fun K => pgA K (He.ma K (He.ga K "Waiting") "entries"), "entries", "Waiting.entries", defArgs s_Waiting_entries, defBody s_Waiting_entries, defScope s_Waiting_entries, []⟩
def N_Waiting_entries : List Str := ["self"]
def b_Waiting_entries : EvS :=
    (sRet (eFld 14 (eVar 0)))
def f_Waiting_entries : FD := fnD 1 b_Waiting_entries
abbrev s_Waiting_day : Stmt := clsAt 51 4
def d_Waiting_day : DefP := ⟨fun K => pgA K (He.ma K (He.ga K "Waiting") "day"), "day", "Waiting.day", defArgs s_Waiting_day, defBody s_Waiting_day, defScope s_Waiting_day, []⟩
def N_Waiting_day : List Str := ["self"]
def b_Waiting_day : EvS :=
    (sRet (eFld 16 (eVar 0)))
def f_Waiting_day : FD := fnD 1 b_Waiting_day
abbrev s_day_of : Stmt := top 53
def d_day_of : DefP := ⟨fun K => He.ga K "day_of", "day_of", "day_of", defArgs s_day_of, defBody s_day_of, defScope s_day_of, []⟩
def N_day_of : List Str := ["waiting"]
def b_day_of : EvS :=
    (sRet (eMakeP 2 5 0 f_Dayzz_initzz [] [0, 1, 2, 3, 4, 5] 6 (aCons (eProp 3 f_Waiting_house (eVar 0)) (aCons (eProp 3 f_Waiting_day (eVar 0)) (aCons (eProp 3 f_Waiting_entries (eVar 0)) (aCons (eProp 3 f_Waiting_places (eVar 0)) (aCons (eFld 17 (eVar 0)) aNil))))) aNil))
def f_day_of : FD := fnD 1 b_day_of
abbrev s_Waiting_asked_next : Stmt := clsAt 51 5
def d_Waiting_asked_next : DefP := ⟨fun K => He.ma K (He.ga K "Waiting") "asked_next", "asked_next", "Waiting.asked_next", defArgs s_Waiting_asked_next, defBody s_Waiting_asked_next, defScope s_Waiting_asked_next, []⟩
def N_Waiting_asked_next : List Str := ["self"]
def b_Waiting_asked_next : EvS :=
    (sRet (eCb tupleF (aCons (eCallP 1 0 f_morning [] [0] 1 (aCons (eCallP 1 0 f_day_of [] [0] 1 (aCons (eVar 0) aNil) aNil) aNil) aNil) aNil)))
def f_Waiting_asked_next : FD := fnD 1 b_Waiting_asked_next
abbrev s__law_shown : Stmt := top 66
def d__law_shown : DefP := ⟨fun K => He.ga K "_law_shown", "_law_shown", "_law_shown", defArgs s__law_shown, defBody s__law_shown, defScope s__law_shown, []⟩
def N__law_shown : List Str := ["_law_waiting"]
def b__law_shown : EvS :=
    (sRet (eLst (aCons (eProp 3 f_Waiting_entries (eVar 0)) (aCons (eProp 3 f_Waiting_places (eVar 0)) (aCons (eProp 3 f_Waiting_day (eVar 0)) (aCons (eFld 17 (eVar 0)) (aCons (eMethP 3 0 0 f_Waiting_asked_next [] [0] 1 (eVar 0) aNil aNil) aNil)))))))
def f__law_shown : FD := fnD 1 b__law_shown
abbrev s__law_lot : Stmt := top 61
def d__law_lot : DefP := ⟨fun K => He.ga K "_law_lot", "_law_lot", "_law_lot", defArgs s__law_lot, defBody s__law_lot, defScope s__law_lot, []⟩
def N__law_lot : List Str := ["_law_purse_here", "_law_kinds", "_law_found", "_law_kind"]
def b__law_lot : EvS :=
    (sSeq (sSet 2 (eLc (iSeq (eVar 1)) [3] (gN 3) (eB (eBin eqD (eCallP 2 0 f__law_pick [] [0, 1] 2 (aCons (eVar 0) (aCons (eC (.int 2)) aNil)) aNil) (eC (.int 0)))) (eVar 3)))
    (sRet (eIf (eB (eBin neD (eVar 2) (eLst aNil))) (eCb tupleF (aCons (eCb sortedF (aCons (eSl (eVar 2) pNone (pSome (eC (.int 4)))) aNil)) aNil)) (eTup (aCons (eBin ixD (eVar 1) (eCallP 2 0 f__law_pick [] [0, 1] 2 (aCons (eVar 0) (aCons (eCb lenF (aCons (eVar 1) aNil)) aNil)) aNil)) aNil)))))
def f__law_lot : FD := fnD 4 b__law_lot
abbrev s__law_people : Stmt := top 62
def d__law_people : DefP := ⟨fun K => He.ga K "_law_people", "_law_people", "_law_people", defArgs s__law_people, defBody s__law_people, defScope s__law_people, []⟩
def N__law_people : List Str := ["_law_purse_here", "_law_names_here", "_law_kinds", "_law_who"]
def b__law_people : EvS :=
    (sRet (eLc (iSeq (eVar 1)) [3] (gN 3) eYes (eTup (aCons (eVar 3) (aCons (eCallP 2 0 f__law_lot [] [0, 1] 2 (aCons (eVar 0) (aCons (eVar 2) aNil)) aNil) aNil)))))
def f__law_people : FD := fnD 4 b__law_people
abbrev s__law_word : Stmt := top 59
def d__law_word : DefP := ⟨fun K => He.ga K "_law_word", "_law_word", "_law_word", defArgs s__law_word, defBody s__law_word, defScope s__law_word, []⟩
def N__law_word : List Str := ["_law_purse_here", "_law_letters", "_law_signs", "_law_word_here", "_law_turn"]
def b__law_word : EvS :=
    (sSeq (sSet 1 (eC (.str "abcdefghijklmnopqrstuvwxyz")))
    (sSeq (sSet 2 (eBin addD (eVar 1) (eC (.str "0123456789"))))
    (sSeq (sSet 3 (eBin ixD (eVar 1) (eCallP 2 0 f__law_pick [] [0, 1] 2 (aCons (eVar 0) (aCons (eC (.int 26)) aNil)) aNil)))
    (sSeq (sFor (iRange1 (aCons (eCallP 2 0 f__law_pick [] [0, 1] 2 (aCons (eVar 0) (aCons (eC (.int 8)) aNil)) aNil) aNil)) (gN 4) (sSet 3 (eBin addD (eVar 3) (eBin ixD (eVar 2) (eCallP 2 0 f__law_pick [] [0, 1] 2 (aCons (eVar 0) (aCons (eC (.int 36)) aNil)) aNil)))))
    (sRet (eVar 3))))))
def f__law_word : FD := fnD 5 b__law_word
abbrev s__law_names : Stmt := top 60
def d__law_names : DefP := ⟨fun K => He.ga K "_law_names", "_law_names", "_law_names", defArgs s__law_names, defBody s__law_names, defScope s__law_names, []⟩
def N__law_names : List Str := ["_law_purse_here", "_law_many", "_law_letters", "_law_menu", "_law_road", "_law_first", "_law_found", "_law_turn", "_law_word_here", "_law_at"]
def b__law_names : EvS :=
    (sSeq (sSet 2 (eC (.str "abcdefghijklmnopqrstuvwxyz")))
    (sSeq (sSet 3 (eMt "str" splitF (eC (.str "place join leave yes no keep back out house wave days silent declined a b")) (aCons (eC (.str " ")) aNil)))
    (sSeq (sPar3 4 5 6 (aCons (eCallP 2 0 f__law_pick [] [0, 1] 2 (aCons (eVar 0) (aCons (eC (.int 3)) aNil)) aNil) (aCons (eCallP 1 0 f__law_word [] [0] 1 (aCons (eVar 0) aNil) aNil) (aCons (eCel aNil) aNil))))
    (sSeq (sFor (iRange1 (aCons (eVar 1) aNil)) (gN 7) (sSeq (sSet 8 (eIf (eB (eBin eqD (eVar 4) (eC (.int 0)))) (eCallP 1 0 f__law_word [] [0] 1 (aCons (eVar 0) aNil) aNil) (eBin ixD (eVar 3) (eCallP 2 0 f__law_pick [] [0, 1] 2 (aCons (eVar 0) (aCons (eC (.int 15)) aNil)) aNil))))
    (sSeq (sIf (eB (eBin eqD (eVar 4) (eC (.int 1)))) (sSeq (sSet 9 (eCallP 2 0 f__law_pick [] [0, 1] 2 (aCons (eVar 0) (aCons (eCb lenF (aCons (eVar 5) aNil)) aNil)) aNil))
    (sSet 8 (eBin addD (eBin addD (eSl (eVar 5) pNone (pSome (eVar 9))) (eBin ixD (eVar 2) (eCallP 2 0 f__law_pick [] [0, 1] 2 (aCons (eVar 0) (aCons (eC (.int 26)) aNil)) aNil))) (eSl (eVar 5) (pSome (eBin addD (eVar 9) (eC (.int 1)))) pNone)))) sNil)
    (sExpr (eMt "list" appendF (eVar 6) (aCons (eIf (eB (eBin notInD (eVar 8) (eVar 6))) (eVar 8) (eCallP 1 0 f__law_spare [] [0] 1 (aCons (eVar 6) aNil) aNil)) aNil))))))
    (sRet (eVar 6))))))
def f__law_names : FD := fnD 10 b__law_names
abbrev s__law_rules : Stmt := top 63
def d__law_rules : DefP := ⟨fun K => He.ga K "_law_rules", "_law_rules", "_law_rules", defArgs s__law_rules, defBody s__law_rules, defScope s__law_rules, []⟩
def N__law_rules : List Str := ["_law_purse_here", "_law_most", "_law_words", "_law_rules_here"]
def b__law_rules : EvS :=
    (sSeq (sSet 2 (eLst (aCons (eC (.str "keep")) (aCons (eC (.str "back")) (aCons (eC (.str "out")) aNil)))))
    (sSeq (sSet 3 (eCel (aCons (eBin addD (eC (.int 1)) (eCallP 2 0 f__law_pick [] [0, 1] 2 (aCons (eVar 0) (aCons (eC (.int 3)) aNil)) aNil)) (aCons (eBin addD (eC (.int 1)) (eCallP 2 0 f__law_pick [] [0, 1] 2 (aCons (eVar 0) (aCons (eVar 1) aNil)) aNil)) aNil))))
    (sSeq (sExpr (eMt "list" appendF (eVar 3) (aCons (eBin ixD (eVar 2) (eCallP 2 0 f__law_pick [] [0, 1] 2 (aCons (eVar 0) (aCons (eC (.int 3)) aNil)) aNil)) aNil)))
    (sRet (eTup (aCons (eBin ixD (eVar 3) (eC (.int 0))) (aCons (eBin ixD (eVar 3) (eC (.int 1))) (aCons (eBin ixD (eVar 3) (eC (.int 2))) (aCons (eBin ixD (eVar 2) (eCallP 2 0 f__law_pick [] [0, 1] 2 (aCons (eVar 0) (aCons (eC (.int 3)) aNil)) aNil)) aNil)))))))))
def f__law_rules : FD := fnD 4 b__law_rules
abbrev s__law_right : Stmt := top 69
def d__law_right : DefP := ⟨fun K => He.ga K "_law_right", "_law_right", "_law_right", defArgs s__law_right, defBody s__law_right, defScope s__law_right, []⟩
def N__law_right : List Str := ["_law_purse_here", "_law_rules_here", "_law_many", "_law_kinds", "_law_crowd", "_law_waiting", "_law_twin", "_law_one", "_law_other", "_law_things", "_law_thing"]
def b__law_right : EvS :=
    (sSeq (sPar 1 2 (aCons (eCallP 2 0 f__law_rules [] [0, 1] 2 (aCons (eVar 0) (aCons (eC (.int 9)) aNil)) aNil) (aCons (eBin ixD (eLst (aCons (eCallP 2 0 f__law_pick [] [0, 1] 2 (aCons (eVar 0) (aCons (eC (.int 31)) aNil)) aNil) (aCons (eCallP 2 0 f__law_pick [] [0, 1] 2 (aCons (eVar 0) (aCons (eC (.int 4)) aNil)) aNil) aNil))) (eCallP 2 0 f__law_pick [] [0, 1] 2 (aCons (eVar 0) (aCons (eC (.int 2)) aNil)) aNil)) aNil)))
    (sSeq (sSet 3 (eCallP 2 0 f__law_names [] [0, 1] 2 (aCons (eVar 0) (aCons (eBin addD (eC (.int 1)) (eCallP 2 0 f__law_pick [] [0, 1] 2 (aCons (eVar 0) (aCons (eC (.int 6)) aNil)) aNil)) aNil)) aNil))
    (sSeq (sSet 4 (eCb tupleF (aCons (eCallP 3 0 f__law_people [] [0, 1, 2] 3 (aCons (eVar 0) (aCons (eCallP 2 0 f__law_names [] [0, 1] 2 (aCons (eVar 0) (aCons (eVar 2) aNil)) aNil) (aCons (eVar 3) aNil))) aNil) aNil)))
    (sSeq (sAsg (eTup (aCons (eMakeP 3 2 0 f_Waitingzz_initzz [] [0, 1, 2] 3 (aCons (eCallP 1 0 f__law_house [] [0] 1 (aCons (eVar 1) aNil) aNil) (aCons (eVar 4) aNil)) aNil) (aCons (eMakeP 3 0 2 f_Waitingzz_initzz [] [0, 2, 1] 3 aNil (aCons (eVar 4) (aCons (eCallP 1 0 f__law_house [] [0] 1 (aCons (eVar 1) aNil) aNil) aNil))) aNil))) (gTu 2 (gCn (gN 5) (gCn (gN 6) gNl))))
    (sSeq (sFor (iSeq (eLst (aCons (eVar 5) (aCons (eVar 6) (aCons (eMethP 3 1 0 f_Waiting_led [] [0, 1] 2 (eVar 5) (aCons (eTup aNil) aNil) aNil) (aCons (eMethP 3 0 1 f_Waiting_led [] [0, 1] 2 (eVar 6) aNil (aCons (eTup aNil) aNil)) aNil)))))) (gN 7) (sSeq (sIf (eOrT (eNotT (eTru (eIsi tab_Waiting (eVar 7)))) (eB (eBin neD (dunE [(0, f_Housezz_reprzz), (3, f_Waitingzz_reprzz)] reprF (eCallP 1 0 f__law_shown [] [0] 1 (aCons (eVar 7) aNil) aNil)) (dunE [(0, f_Housezz_reprzz), (3, f_Waitingzz_reprzz)] reprF (eLst (aCons (eVar 4) (aCons (eTup aNil) (aCons (eC (.int 1)) (aCons (eTup aNil) (aCons (eTup aNil) aNil)))))))))) (sRet (eC (.bl false))) sNil)
    (sSeq (sIf (eOrT (eNotT (eTru (eIsi tab_House (eProp 3 f_Waiting_house (eVar 7))))) (eB (eBin neD (dunE [(0, f_Housezz_strzz)] (f1 strD) (eProp 3 f_Waiting_house (eVar 7))) (eCallP 1 0 f__law_house_text [] [0] 1 (aCons (eVar 1) aNil) aNil)))) (sRet (eC (.bl false))) sNil)
    (sIf (eOrT (eB (eBin neD (dunE [(0, f_Housezz_reprzz), (3, f_Waitingzz_reprzz)] reprF (eVar 7)) (eBin addD (eBin addD (eC (.str "Waiting of ")) (dunE [(0, f_Housezz_strzz)] (f1 strD) (eVar 2))) (eC (.str " entries on day 1"))))) (eOrT (eNotT (eB (eBinR (eqO [(0, f_Housezz_eqzz), (3, f_Waitingzz_eqzz)]) (eVar 7) (eVar 5)))) (eB (eBinR (neO [(0, f_Housezz_eqzz), (3, f_Waitingzz_eqzz)]) (eVar 7) (eVar 6))))) (sRet (eC (.bl false))) sNil))))
    (sSeq (sFor (iSeq (eCallP 3 0 f__law_near_lists [] [0, 1, 2] 3 (aCons (eVar 0) (aCons (eVar 1) (aCons (eVar 4) aNil))) aNil)) (gN 8) (sIf (eOrT (eB (eBinR (eqO [(0, f_Housezz_eqzz), (3, f_Waitingzz_eqzz)]) (eVar 5) (eVar 8))) (eOrT (eB (eBinR (eqO [(0, f_Housezz_eqzz), (3, f_Waitingzz_eqzz)]) (eVar 8) (eVar 5))) (eNotT (eB (eBinR (neO [(0, f_Housezz_eqzz), (3, f_Waitingzz_eqzz)]) (eVar 5) (eVar 8)))))) (sRet (eC (.bl false))) sNil))
    (sSeq (sSet 9 (eLst (aCons (eC .non) (aCons (eVar 4) (aCons (eTup aNil) (aCons (dunE [(0, f_Housezz_reprzz), (3, f_Waitingzz_reprzz)] reprF (eVar 5)) (aCons (eC (.int 1)) (aCons (eCallP 1 0 f__law_house [] [0] 1 (aCons (eVar 1) aNil) aNil) (aCons (eLst aNil) (aCons eDct0 aNil))))))))))
    (sRet (eBin eqD (eLc (iSeq (eVar 9)) [10] (gN 10) (eOrT (eB (eBinR (eqO [(0, f_Housezz_eqzz), (3, f_Waitingzz_eqzz)]) (eVar 5) (eVar 10))) (eOrT (eB (eBinR (eqO [(0, f_Housezz_eqzz), (3, f_Waitingzz_eqzz)]) (eVar 10) (eVar 5))) (eNotT (eB (eBinR (neO [(0, f_Housezz_eqzz), (3, f_Waitingzz_eqzz)]) (eVar 5) (eVar 10)))))) (eVar 10)) (eLst aNil))))))))))
def f__law_right : FD := fnD 11 b__law_right
abbrev s__law_purse : Stmt := top 57
def d__law_purse : DefP := ⟨fun K => He.ga K "_law_purse", "_law_purse", "_law_purse", defArgs s__law_purse, defBody s__law_purse, defScope s__law_purse, []⟩
def N__law_purse : List Str := ["_law_number_here", "_law_digits"]
def b__law_purse : EvS :=
    (sSeq (sSet 1 (eIf (eOrT (eB (eBin ltD (eVar 0) (eC (.int 0)))) (eB (eBin geD (eVar 0) (eBin powD (eC (.int 10)) (eC (.int 18)))))) (eCb (f1 absD) (aCons (eVar 0) aNil)) (eC (.int 0))))
    (sRet (eCel (aCons (eBin modD (eCb (f1 toIntD) (aCons (eVar 0) aNil)) (eC (.int 2147483629))) (aCons (eVar 1) (aCons (eC (.int 0)) aNil))))))
def f__law_purse : FD := fnDC 2 b__law_purse
abbrev s__law_number : Stmt := top 56
def d__law_number : DefP := ⟨fun K => He.ga K "_law_number", "_law_number", "_law_number", defArgs s__law_number, defBody s__law_number, defScope s__law_number, []⟩
def N__law_number : List Str := ["_law_script", "_law_k", "_law_mixed", "_law_one"]
def b__law_number : EvS :=
    (sSeq (sIf (eB (eBin ltD (eVar 1) (eCb lenF (aCons (eVar 0) aNil)))) (sRet (eBin ixD (eVar 0) (eVar 1))) sNil)
    (sSeq (sSet 2 (eBin modD (eCb (f1 toIntD) (aCons (eBin mulD (eC (.int 61343)) (eBin addD (eBin addD (eBin mulD (eVar 1) (eVar 1)) (eBin mulD (eC (.int 5)) (eVar 1))) (eC (.int 17)))) aNil)) (eC (.int 2147483587))))
    (sSeq (sFor (iSeq (eSl (eVar 0) pNone (pSome (eC (.int 3))))) (gN 3) (sSet 2 (eBin modD (eCb (f1 toIntD) (aCons (eBin addD (eBin mulD (eVar 2) (eC (.int 40487))) (eVar 3)) aNil)) (eC (.int 2147483587)))))
    (sRet (eVar 2)))))
def f__law_number : FD := fnD 4 b__law_number
abbrev s_law : Stmt := top 70
def d_law : DefP := ⟨fun K => He.ga K "law", "law", "law", defArgs s_law, defBody s_law, defScope s_law, []⟩
def N_law : List Str := ["_law_script", "_law_k"]
def b_law : EvS :=
    (sRet (eCb allF (aCons (eLc (iRange1 (aCons (eCb (f2 max2D) (aCons (eC (.int 2)) (aCons (eCb (f2 min2D) (aCons (eCb lenF (aCons (eVar 0) aNil)) (aCons (eC (.int 4)) aNil))) aNil))) aNil)) [1] (gN 1) eYes (eCallP 1 0 f__law_right [] [0] 1 (aCons (eCallP 1 0 f__law_purse [] [0] 1 (aCons (eCallP 2 0 f__law_number [] [0, 1] 2 (aCons (eVar 0) (aCons (eVar 1) aNil)) aNil) aNil) aNil) aNil) aNil)) aNil)))
def f_law : FD := fnD 2 b_law
def fn : List DefP := [d_Housezz_eqzz, d_Waitingzz_eqzz, d_is_word, d_InvalidWordzz_initzz, d_is_integer, d_is_number, d_InvalidDayszz_initzz, d_InvalidWavezz_initzz, d_Housezz_initzz, d__law_house, d_Housezz_reprzz, d_Waitingzz_reprzz, d_InvalidEntrieszz_initzz, d_is_name, d_is_lot, d_is_pair, d_check_entries, d_NotAHousezz_initzz, d_check_house, d_Waitingzz_initzz, d__law_pick, d_Housezz_strzz, d__law_spare, d__law_near_lists, d_InvalidEventszz_initzz, d_Waiting_led, d_Waiting_house, d__law_house_text, d_House_wave, d_next_names, d_House_days, d_morning, d_Placezz_initzz, d_Dayzz_initzz, d_Waiting_places, d_Waiting_entries, d_Waiting_day, d_day_of, d_Waiting_asked_next, d__law_shown, d__law_lot, d__law_people, d__law_word, d__law_names, d__law_rules, d__law_right, d__law_purse, d__law_number, d_law]
def lam : List DefP := []
def bs : List (Frag → Bool) := [
  fun K => He.Fa.ok K (.free "all"),
  fun K => He.Fa.ok K (.free "max"),
  fun K => He.Fa.ok K (.free "min"),
  fun K => He.Fa.ok K (.free "len"),
  fun K => He.Fa.ok K (.free "range"),
  fun K => He.Fa.ok K (.free "isinstance"),
  bIsi (GG [] none) (fun K => .ref (He.ga K "House")) tab_House,
  fun K => He.Fa.ok K (.glo "House"),
  bSpec (fun K => He.ga K "House") "__eq__",
  bEq (GG [] none) (fun K => He.ga K "House"),
  bIsi (GG [] none) (fun K => .ref (He.ga K "Waiting")) tab_Waiting,
  fun K => He.Fa.ok K (.glo "Waiting"),
  bSpec (fun K => He.ga K "Waiting") "__eq__",
  bEq (GG [] none) (fun K => He.ga K "Waiting"),
  fun K => He.Fa.ok K (.glo "WORDS"),
  fun K => He.tupB K "WORDS" [(.str "keep"), (.str "back"), (.str "out")],
  plB "WORDS",
  bIsi (GG [] none) (fun _ => .type "str") tab_str,
  fun K => He.Fa.ok K (.free "str"),
  fun K => He.Fa.ok K (.glo "is_word"),
  fun K => He.Fa.ok K (.meth "InvalidWord" "__init__"),
  fun K => He.Fa.ok K (.noat "InvalidWord" "given"),
  bOex (fun K => He.ga K "InvalidWord"),
  fun K => He.Fa.ok K (.glo "InvalidWord"),
  bIsi (GG [] none) (fun _ => .type "bool") tab_bool,
  fun K => He.Fa.ok K (.free "bool"),
  bIsi (GG [] none) (fun _ => .type "int") tab_int,
  fun K => He.Fa.ok K (.free "int"),
  fun K => He.Fa.ok K (.glo "is_integer"),
  fun K => He.Fa.ok K (.int "MOST_DAYS" 9),
  fun K => He.Fa.ok K (.glo "is_number"),
  fun K => He.Fa.ok K (.meth "InvalidDays" "__init__"),
  fun K => He.Fa.ok K (.noat "InvalidDays" "given"),
  bOex (fun K => He.ga K "InvalidDays"),
  fun K => He.Fa.ok K (.glo "InvalidDays"),
  fun K => He.Fa.ok K (.int "MOST_WAVE" 3),
  fun K => He.Fa.ok K (.meth "InvalidWave" "__init__"),
  fun K => He.Fa.ok K (.noat "InvalidWave" "given"),
  bOex (fun K => He.ga K "InvalidWave"),
  fun K => He.Fa.ok K (.glo "InvalidWave"),
  fun K => He.Fa.ok K (.mkr "House"),
  fun K => He.Fa.ok K (.glo "_law_house"),
  fun K => He.Fa.ok K (.free "repr"),
  bSpec (fun K => He.ga K "Waiting") "__repr__",
  bSpec (fun K => He.ga K "House") "__repr__",
  fun K => He.Fa.ok K (.free "enumerate"),
  fun K => He.Fa.ok K (.meth "InvalidEntries" "__init__"),
  fun K => He.Fa.ok K (.noat "InvalidEntries" "index"),
  bOex (fun K => He.ga K "InvalidEntries"),
  fun K => He.Fa.ok K (.glo "InvalidEntries"),
  fun K => He.Fa.ok K (.str "LETTERS_AND_DIGITS" "abcdefghijklmnopqrstuvwxyz0123456789"),
  fun K => He.Fa.ok K (.str "LETTERS" "abcdefghijklmnopqrstuvwxyz"),
  fun K => He.Fa.ok K (.int "MOST_CHARACTERS" 8),
  fun K => He.Fa.ok K (.glo "is_name"),
  fun K => He.Fa.ok K (.int "MOST_KINDS" 4),
  bIsi (GG [] none) (fun _ => .type "tuple") tab_tuple,
  fun K => He.Fa.ok K (.free "tuple"),
  fun K => He.Fa.ok K (.glo "is_lot"),
  fun K => He.Fa.ok K (.glo "is_pair"),
  fun K => He.Fa.ok K (.int "MOST_ENTRIES" 30),
  fun K => He.Fa.ok K (.glo "check_entries"),
  fun K => He.Fa.ok K (.meth "NotAHouse" "__init__"),
  fun K => He.Fa.ok K (.noat "NotAHouse" "given"),
  bOex (fun K => He.ga K "NotAHouse"),
  fun K => He.Fa.ok K (.glo "NotAHouse"),
  fun K => He.Fa.ok K (.glo "check_house"),
  fun K => He.Fa.ok K (.mkr "Waiting"),
  fun K => He.Fa.ok K (.free "divmod"),
  fun K => He.Fa.ok K (.glo "_law_pick"),
  bSpec (fun K => He.ga K "House") "__str__",
  fun K => He.Fa.ok K (.glo "_law_spare"),
  fun K => He.Fa.ok K (.glo "_law_near_lists"),
  fun K => He.Fa.ok K (.meth "InvalidEvents" "__init__"),
  fun K => He.Fa.ok K (.noat "InvalidEvents" "index"),
  bOex (fun K => He.ga K "InvalidEvents"),
  fun K => He.Fa.ok K (.glo "InvalidEvents"),
  fun K => He.Fa.ok K (.meth "Waiting" "led"),
  bProp (fun K => He.ga K "Waiting") "house",
  fun K => He.Fa.ok K (.glo "_law_house_text"),
  bProp (fun K => He.ga K "House") "wave",
  fun K => He.Fa.ok K (.glo "next_names"),
  bProp (fun K => He.ga K "House") "days",
  fun K => He.Fa.ok K (.free "list"),
  fun K => He.Fa.ok K (.free "dict"),
  bProp (fun K => He.ga K "Waiting") "places",
  bProp (fun K => He.ga K "Waiting") "entries",
  bProp (fun K => He.ga K "Waiting") "day",
  fun K => He.Fa.ok K (.mkr "Day"),
  fun K => He.Fa.ok K (.glo "Day"),
  fun K => He.Fa.ok K (.glo "day_of"),
  fun K => He.Fa.ok K (.glo "morning"),
  fun K => He.Fa.ok K (.meth "Waiting" "asked_next"),
  fun K => He.Fa.ok K (.glo "_law_shown"),
  fun K => He.Fa.ok K (.free "sorted"),
  fun K => He.Fa.ok K (.glo "_law_lot"),
  fun K => He.Fa.ok K (.glo "_law_word"),
  fun K => He.Fa.ok K (.glo "_law_names"),
  fun K => He.Fa.ok K (.glo "_law_people"),
  fun K => He.Fa.ok K (.glo "_law_rules"),
  fun K => He.Fa.ok K (.free "abs"),
  fun K => He.Fa.ok K (.glo "_law_number"),
  fun K => He.Fa.ok K (.glo "_law_purse"),
  fun K => He.Fa.ok K (.glo "_law_right"),
  fun K => He.Fa.ok K (.cls "House"),
  fun K => He.Fa.ok K (.noat "House" "_wave"),
  fun K => He.Fa.ok K (.noat "House" "_days"),
  fun K => He.Fa.ok K (.noat "House" "_silent"),
  fun K => He.Fa.ok K (.noat "House" "_declined"),
  fun K => He.Fa.ok K (.noat "House" "number"),
  fun K => He.Fa.ok K (.noat "House" "kind"),
  fun K => He.Fa.ok K (.noat "House" "asked"),
  fun K => He.Fa.ok K (.noat "House" "last_days"),
  fun K => He.Fa.ok K (.noat "House" "rules"),
  fun K => He.Fa.ok K (.noat "House" "people"),
  fun K => He.Fa.ok K (.noat "House" "stock"),
  fun K => He.Fa.ok K (.noat "House" "handed"),
  fun K => He.Fa.ok K (.noat "House" "answers"),
  fun K => He.Fa.ok K (.noat "House" "_house"),
  fun K => He.Fa.ok K (.noat "House" "_entries"),
  fun K => He.Fa.ok K (.noat "House" "_places"),
  fun K => He.Fa.ok K (.noat "House" "_day"),
  fun K => He.Fa.ok K (.noat "House" "given"),
  bClsI (fun K => He.ga K "House"),
  bTru (fun K => He.ga K "House"),
  fun K => He.Fa.ok K (.cls "Place"),
  fun K => He.Fa.ok K (.noat "Place" "_wave"),
  fun K => He.Fa.ok K (.noat "Place" "_days"),
  fun K => He.Fa.ok K (.noat "Place" "_silent"),
  fun K => He.Fa.ok K (.noat "Place" "_declined"),
  fun K => He.Fa.ok K (.noat "Place" "number"),
  fun K => He.Fa.ok K (.noat "Place" "kind"),
  fun K => He.Fa.ok K (.noat "Place" "asked"),
  fun K => He.Fa.ok K (.noat "Place" "last_days"),
  fun K => He.Fa.ok K (.noat "Place" "rules"),
  fun K => He.Fa.ok K (.noat "Place" "people"),
  fun K => He.Fa.ok K (.noat "Place" "stock"),
  fun K => He.Fa.ok K (.noat "Place" "handed"),
  fun K => He.Fa.ok K (.noat "Place" "answers"),
  fun K => He.Fa.ok K (.noat "Place" "_house"),
  fun K => He.Fa.ok K (.noat "Place" "_entries"),
  fun K => He.Fa.ok K (.noat "Place" "_places"),
  fun K => He.Fa.ok K (.noat "Place" "_day"),
  fun K => He.Fa.ok K (.noat "Place" "given"),
  bClsI (fun K => He.ga K "Place"),
  bTru (fun K => He.ga K "Place"),
  fun K => He.Fa.ok K (.cls "Day"),
  fun K => He.Fa.ok K (.noat "Day" "_wave"),
  fun K => He.Fa.ok K (.noat "Day" "_days"),
  fun K => He.Fa.ok K (.noat "Day" "_silent"),
  fun K => He.Fa.ok K (.noat "Day" "_declined"),
  fun K => He.Fa.ok K (.noat "Day" "number"),
  fun K => He.Fa.ok K (.noat "Day" "kind"),
  fun K => He.Fa.ok K (.noat "Day" "asked"),
  fun K => He.Fa.ok K (.noat "Day" "last_days"),
  fun K => He.Fa.ok K (.noat "Day" "rules"),
  fun K => He.Fa.ok K (.noat "Day" "people"),
  fun K => He.Fa.ok K (.noat "Day" "stock"),
  fun K => He.Fa.ok K (.noat "Day" "handed"),
  fun K => He.Fa.ok K (.noat "Day" "answers"),
  fun K => He.Fa.ok K (.noat "Day" "_house"),
  fun K => He.Fa.ok K (.noat "Day" "_entries"),
  fun K => He.Fa.ok K (.noat "Day" "_places"),
  fun K => He.Fa.ok K (.noat "Day" "_day"),
  fun K => He.Fa.ok K (.noat "Day" "given"),
  bClsI (fun K => He.ga K "Day"),
  bTru (fun K => He.ga K "Day"),
  fun K => He.Fa.ok K (.cls "Waiting"),
  fun K => He.Fa.ok K (.noat "Waiting" "_wave"),
  fun K => He.Fa.ok K (.noat "Waiting" "_days"),
  fun K => He.Fa.ok K (.noat "Waiting" "_silent"),
  fun K => He.Fa.ok K (.noat "Waiting" "_declined"),
  fun K => He.Fa.ok K (.noat "Waiting" "number"),
  fun K => He.Fa.ok K (.noat "Waiting" "kind"),
  fun K => He.Fa.ok K (.noat "Waiting" "asked"),
  fun K => He.Fa.ok K (.noat "Waiting" "last_days"),
  fun K => He.Fa.ok K (.noat "Waiting" "rules"),
  fun K => He.Fa.ok K (.noat "Waiting" "people"),
  fun K => He.Fa.ok K (.noat "Waiting" "stock"),
  fun K => He.Fa.ok K (.noat "Waiting" "handed"),
  fun K => He.Fa.ok K (.noat "Waiting" "answers"),
  fun K => He.Fa.ok K (.noat "Waiting" "_house"),
  fun K => He.Fa.ok K (.noat "Waiting" "_entries"),
  fun K => He.Fa.ok K (.noat "Waiting" "_places"),
  fun K => He.Fa.ok K (.noat "Waiting" "_day"),
  fun K => He.Fa.ok K (.noat "Waiting" "given"),
  bClsI (fun K => He.ga K "Waiting"),
  bTru (fun K => He.ga K "Waiting"),
  fun K => He.Fa.ok K (.glo "law")]
section
variable {P : Program} {w : World} {K : Frag} {mg : Str → Option Value} {base : Heap}
theorem wc {cs : List (Addr × Addr)} {xa : Option (Addr × Nat × Option Addr)} (z : Says bs fn K mg) : WfC K (GG cs xa K) where
  cls := fun C hC => by
    simp only [GG, List.mem_cons, List.not_mem_nil, or_false] at hC
    rcases hC with rfl | rfl | rfl | rfl
    · exact He.cls_ok (z.says.fact 103 rfl)
    · exact He.cls_ok (z.says.fact 124 rfl)
    · exact He.cls_ok (z.says.fact 145 rfl)
    · exact He.cls_ok (z.says.fact 166 rfl)
  na := fun C hC x hx hxn => by
    simp only [GG, List.mem_cons, List.not_mem_nil, or_false] at hC
    simp only [GG, nmL, List.mem_cons, List.not_mem_nil, or_false] at hx
    rcases hC with rfl | rfl | rfl | rfl <;> rcases hx with rfl | rfl | rfl | rfl | rfl | rfl | rfl | rfl | rfl | rfl | rfl | rfl | rfl | rfl | rfl | rfl | rfl | rfl | rfl
    · exact He.noat_ok (z.says.fact 104 rfl)
    · exact He.noat_ok (z.says.fact 105 rfl)
    · exact He.noat_ok (z.says.fact 106 rfl)
    · exact He.noat_ok (z.says.fact 107 rfl)
    · exact He.noat_ok (z.says.fact 108 rfl)
    · exact He.noat_ok (z.says.fact 109 rfl)
    · exact He.noat_ok (z.says.fact 110 rfl)
    · exact He.noat_ok (z.says.fact 111 rfl)
    · exact He.noat_ok (z.says.fact 112 rfl)
    · exact He.noat_ok (z.says.fact 113 rfl)
    · exact He.noat_ok (z.says.fact 114 rfl)
    · exact He.noat_ok (z.says.fact 115 rfl)
    · exact He.noat_ok (z.says.fact 116 rfl)
    · exact He.noat_ok (z.says.fact 117 rfl)
    · exact He.noat_ok (z.says.fact 118 rfl)
    · exact He.noat_ok (z.says.fact 119 rfl)
    · exact He.noat_ok (z.says.fact 120 rfl)
    · exact He.noat_ok (z.says.fact 121 rfl)
    · exact Bool.noConfusion ((show xnL.contains "index" = true by decide +kernel).symm.trans hxn)
    · exact He.noat_ok (z.says.fact 125 rfl)
    · exact He.noat_ok (z.says.fact 126 rfl)
    · exact He.noat_ok (z.says.fact 127 rfl)
    · exact He.noat_ok (z.says.fact 128 rfl)
    · exact He.noat_ok (z.says.fact 129 rfl)
    · exact He.noat_ok (z.says.fact 130 rfl)
    · exact He.noat_ok (z.says.fact 131 rfl)
    · exact He.noat_ok (z.says.fact 132 rfl)
    · exact He.noat_ok (z.says.fact 133 rfl)
    · exact He.noat_ok (z.says.fact 134 rfl)
    · exact He.noat_ok (z.says.fact 135 rfl)
    · exact He.noat_ok (z.says.fact 136 rfl)
    · exact He.noat_ok (z.says.fact 137 rfl)
    · exact He.noat_ok (z.says.fact 138 rfl)
    · exact He.noat_ok (z.says.fact 139 rfl)
    · exact He.noat_ok (z.says.fact 140 rfl)
    · exact He.noat_ok (z.says.fact 141 rfl)
    · exact He.noat_ok (z.says.fact 142 rfl)
    · exact Bool.noConfusion ((show xnL.contains "index" = true by decide +kernel).symm.trans hxn)
    · exact He.noat_ok (z.says.fact 146 rfl)
    · exact He.noat_ok (z.says.fact 147 rfl)
    · exact He.noat_ok (z.says.fact 148 rfl)
    · exact He.noat_ok (z.says.fact 149 rfl)
    · exact He.noat_ok (z.says.fact 150 rfl)
    · exact He.noat_ok (z.says.fact 151 rfl)
    · exact He.noat_ok (z.says.fact 152 rfl)
    · exact He.noat_ok (z.says.fact 153 rfl)
    · exact He.noat_ok (z.says.fact 154 rfl)
    · exact He.noat_ok (z.says.fact 155 rfl)
    · exact He.noat_ok (z.says.fact 156 rfl)
    · exact He.noat_ok (z.says.fact 157 rfl)
    · exact He.noat_ok (z.says.fact 158 rfl)
    · exact He.noat_ok (z.says.fact 159 rfl)
    · exact He.noat_ok (z.says.fact 160 rfl)
    · exact He.noat_ok (z.says.fact 161 rfl)
    · exact He.noat_ok (z.says.fact 162 rfl)
    · exact He.noat_ok (z.says.fact 163 rfl)
    · exact Bool.noConfusion ((show xnL.contains "index" = true by decide +kernel).symm.trans hxn)
    · exact He.noat_ok (z.says.fact 167 rfl)
    · exact He.noat_ok (z.says.fact 168 rfl)
    · exact He.noat_ok (z.says.fact 169 rfl)
    · exact He.noat_ok (z.says.fact 170 rfl)
    · exact He.noat_ok (z.says.fact 171 rfl)
    · exact He.noat_ok (z.says.fact 172 rfl)
    · exact He.noat_ok (z.says.fact 173 rfl)
    · exact He.noat_ok (z.says.fact 174 rfl)
    · exact He.noat_ok (z.says.fact 175 rfl)
    · exact He.noat_ok (z.says.fact 176 rfl)
    · exact He.noat_ok (z.says.fact 177 rfl)
    · exact He.noat_ok (z.says.fact 178 rfl)
    · exact He.noat_ok (z.says.fact 179 rfl)
    · exact He.noat_ok (z.says.fact 180 rfl)
    · exact He.noat_ok (z.says.fact 181 rfl)
    · exact He.noat_ok (z.says.fact 182 rfl)
    · exact He.noat_ok (z.says.fact 183 rfl)
    · exact He.noat_ok (z.says.fact 184 rfl)
    · exact Bool.noConfusion ((show xnL.contains "index" = true by decide +kernel).symm.trans hxn)
theorem wi {cs : List (Addr × Addr)} {xa : Option (Addr × Nat × Option Addr)} (z : Says bs fn K mg) : WfI (GG cs xa K).K (GG cs xa K) where
  wc := wc z
  ci := fun C hC => by
    simp only [GG, List.mem_cons, List.not_mem_nil, or_false] at hC
    rcases hC with rfl | rfl | rfl | rfl
    · exact clsI_ok (z.says.fact 122 rfl)
    · exact clsI_ok (z.says.fact 143 rfl)
    · exact clsI_ok (z.says.fact 164 rfl)
    · exact clsI_ok (z.says.fact 185 rfl)
theorem trus {cs : List (Addr × Addr)} {xa : Option (Addr × Nat × Option Addr)} (z : Says bs fn K mg) : ∀ c C, ([0, 1, 2, 3] : List Nat).contains c = true → (GG cs xa K).cls[c]? = some C → TruC (GG cs xa K).K C := fun c C _ hC => by
  have hC := List.mem_of_getElem? hC
  simp only [GG, List.mem_cons, List.not_mem_nil, or_false] at hC
  rcases hC with rfl | rfl | rfl | rfl
  · exact tru_ok (z.says.fact 123 rfl)
  · exact tru_ok (z.says.fact 144 rfl)
  · exact tru_ok (z.says.fact 165 rfl)
  · exact tru_ok (z.says.fact 186 rfl)
theorem sc_Housezz_eqzz : FnScope N_Housezz_eqzz ["self", "other"] (defScope s_Housezz_eqzz) := ⟨rfl, rfl, rfl, by decide +kernel, rfl, by decide +kernel, by decide +kernel⟩
theorem ok_Housezz_eqzz {cs : List (Addr × Addr)} {xa : Option (Addr × Nat × Option Addr)} {μ : Mu} (z : Says bs fn K mg) : ∃ fd, FunD K "__eq__" "House.__eq__" (defArgs s_Housezz_eqzz) (defBody s_Housezz_eqzz) (defScope s_Housezz_eqzz) (d_Housezz_eqzz.dvs K) [] (d_Housezz_eqzz.ad K) fd ∧ FnG μ P w K mg base 1 (d_Housezz_eqzz.ad K) fd ["self", "other"] (spD (GG cs xa K) 2 f_Housezz_eqzz) := by
  obtain ⟨fd, F⟩ := z.says.def_ 0 (d := d_Housezz_eqzz) rfl
  have sc := sc_Housezz_eqzz
  refine ⟨fd, F, fnG_ofF (fF := f_Housezz_eqzz) (body := b_Housezz_eqzz) F sc rfl nmL_nd (fun _ _ _ _ h => body_of h) fun calm pn cdv A outer s H E hcd W hr B => ?_⟩
  exact (s_one (s_ret (x_and W (x_isiO W (wi z) (x_var 1) (isi_ok (gg := GG [] none) (u := fun K => .ref (He.ga K "House")) (z.says.fact 6 rfl)) (z.free 5) (z.glo 7)) (x_and W (x_eq W (x_fld W (wc z) 0 (x_var 0) rfl hx_0) (x_fld W (wc z) 0 (x_var 1) rfl hx_0)) (x_and W (x_eq W (x_fld W (wc z) 1 (x_var 0) rfl hx_1) (x_fld W (wc z) 1 (x_var 1) rfl hx_1)) (x_and W (x_eq W (x_fld W (wc z) 2 (x_var 0) rfl hx_2) (x_fld W (wc z) 2 (x_var 1) rfl hx_2)) (x_one (x_eq W (x_fld W (wc z) 3 (x_var 0) rfl hx_3) (x_fld W (wc z) 3 (x_var 1) rfl hx_3)))))))))
theorem sc_Waitingzz_eqzz : FnScope N_Waitingzz_eqzz ["self", "other"] (defScope s_Waitingzz_eqzz) := ⟨rfl, rfl, rfl, by decide +kernel, rfl, by decide +kernel, by decide +kernel⟩
theorem ok_Waitingzz_eqzz {cs : List (Addr × Addr)} {xa : Option (Addr × Nat × Option Addr)} {μ : Mu} (z : Says bs fn K mg) : ∃ fd, FunD K "__eq__" "Waiting.__eq__" (defArgs s_Waitingzz_eqzz) (defBody s_Waitingzz_eqzz) (defScope s_Waitingzz_eqzz) (d_Waitingzz_eqzz.dvs K) [] (d_Waitingzz_eqzz.ad K) fd ∧ FnG μ P w K mg base 2 (d_Waitingzz_eqzz.ad K) fd ["self", "other"] (spD (GG cs xa K) 2 f_Waitingzz_eqzz) := by
  obtain ⟨fd_Housezz_eqzz, F_Housezz_eqzz, O_Housezz_eqzz⟩ := ok_Housezz_eqzz (P := P) (w := w) (base := base) (cs := cs) (xa := xa) (μ := μ) z
  obtain ⟨fd, F⟩ := z.says.def_ 1 (d := d_Waitingzz_eqzz) rfl
  have sc := sc_Waitingzz_eqzz
  refine ⟨fd, F, fnG_ofF (fF := f_Waitingzz_eqzz) (body := b_Waitingzz_eqzz) F sc rfl nmL_nd (fun _ _ _ _ h => body_of h) fun calm pn cdv A outer s H E hcd W hr B => ?_⟩
  exact (s_one (s_ret (x_and W (x_isiO W (wi z) (x_var 1) (isi_ok (gg := GG [] none) (u := fun K => .ref (He.ga K "Waiting")) (z.says.fact 10 rfl)) (z.free 5) (z.glo 11)) (x_and W (x_cmpR (x_fld W (wc z) 13 (x_var 0) rfl hx_13) (x_fld W (wc z) 13 (x_var 1) rfl hx_13) (op_eqO W (wi z) (k := 1) (dunqs_cons ⟨⟨He.ga K "House", _, _, _, rfl, (spec_ok (z.says.fact 8 rfl)).1, (spec_ok (z.says.fact 8 rfl)).2, O_Housezz_eqzz.mono (by decide), (bp_none F_Housezz_eqzz 2 [] [0, 1] fun _ _ _ _ _ _ us ws l1 l2 => match us, ws, l1, l2 with | [_, _], [], _, _ => rfl), (eq_ok (z.says.fact 9 rfl))⟩⟩ dunqs_nil) (hr.mono (by decide)) B.ps)) (x_and W (x_eq W (x_fld W (wc z) 14 (x_var 0) rfl hx_14) (x_fld W (wc z) 14 (x_var 1) rfl hx_14)) (x_and W (x_eq W (x_fld W (wc z) 15 (x_var 0) rfl hx_15) (x_fld W (wc z) 15 (x_var 1) rfl hx_15)) (x_and W (x_eq W (x_fld W (wc z) 16 (x_var 0) rfl hx_16) (x_fld W (wc z) 16 (x_var 1) rfl hx_16)) (x_one (x_eq W (x_fld W (wc z) 17 (x_var 0) rfl hx_17) (x_fld W (wc z) 17 (x_var 1) rfl hx_17))))))))))
theorem sc_is_word : FnScope N_is_word ["value"] (defScope s_is_word) := ⟨rfl, rfl, rfl, by decide +kernel, rfl, by decide +kernel, by decide +kernel⟩
theorem ok_is_word {cs : List (Addr × Addr)} {xa : Option (Addr × Nat × Option Addr)} {μ : Mu} (z : Says bs fn K mg) : ∃ fd, FunD K "is_word" "is_word" (defArgs s_is_word) (defBody s_is_word) (defScope s_is_word) (d_is_word.dvs K) [] (d_is_word.ad K) fd ∧ FnG μ P w K mg base 1 (d_is_word.ad K) fd ["value"] (spD (GG cs xa K) 1 f_is_word) := by
  obtain ⟨fd, F⟩ := z.says.def_ 2 (d := d_is_word) rfl
  have sc := sc_is_word
  refine ⟨fd, F, fnG_ofF (fF := f_is_word) (body := b_is_word) F sc rfl nmL_nd (fun _ _ _ _ h => body_of h) fun calm pn cdv A outer s H E hcd W hr B => ?_⟩
  exact (s_one (s_ret (x_and W (x_isiB W (wi z) (x_var 0) (isi_ok (gg := GG [] none) (u := fun _ => .type "str") (z.says.fact 17 rfl)) (z.free 5) (z.free 18)) (x_one (x_in W (x_var 0) (x_conG (gc_tup rfl (z.glo 14) (z.says.fact 15 rfl) (z.says.fact 16 rfl))))))))
theorem sc_InvalidWordzz_initzz : FnScope N_InvalidWordzz_initzz ["self", "given"] (defScope s_InvalidWordzz_initzz) := ⟨rfl, rfl, rfl, by decide +kernel, rfl, by decide +kernel, by decide +kernel⟩
theorem ok_InvalidWordzz_initzz (z : Says bs fn K mg) : ∃ fd, FunD K "__init__" "InvalidWord.__init__" (defArgs s_InvalidWordzz_initzz) (defBody s_InvalidWordzz_initzz) (defScope s_InvalidWordzz_initzz) [] [] (d_InvalidWordzz_initzz.ad K) fd ∧ FnOk P w K mg base (L2N.CX P w) 1 (d_InvalidWordzz_initzz.ad K) fd ["self", "given"] (spI1 K "given") := by
  obtain ⟨fd, F⟩ := z.says.def_ 3 (d := d_InvalidWordzz_initzz) rfl
  exact ⟨fd, F, init1 F sc_InvalidWordzz_initzz rfl (.inl rfl) (.inl rfl) (by decide) (by decide) (by decide) (by decide)⟩
theorem sc_is_integer : FnScope N_is_integer ["value"] (defScope s_is_integer) := ⟨rfl, rfl, rfl, by decide +kernel, rfl, by decide +kernel, by decide +kernel⟩
theorem ok_is_integer {cs : List (Addr × Addr)} {xa : Option (Addr × Nat × Option Addr)} {μ : Mu} (z : Says bs fn K mg) : ∃ fd, FunD K "is_integer" "is_integer" (defArgs s_is_integer) (defBody s_is_integer) (defScope s_is_integer) (d_is_integer.dvs K) [] (d_is_integer.ad K) fd ∧ FnG μ P w K mg base 1 (d_is_integer.ad K) fd ["value"] (spD (GG cs xa K) 1 f_is_integer) := by
  obtain ⟨fd, F⟩ := z.says.def_ 4 (d := d_is_integer) rfl
  have sc := sc_is_integer
  refine ⟨fd, F, fnG_ofF (fF := f_is_integer) (body := b_is_integer) F sc rfl nmL_nd (fun _ _ _ _ h => body_of h) fun calm pn cdv A outer s H E hcd W hr B => ?_⟩
  exact (s_one (s_ret (x_and W (x_isiB W (wi z) (x_var 0) (isi_ok (gg := GG [] none) (u := fun _ => .type "int") (z.says.fact 26 rfl)) (z.free 5) (z.free 27)) (x_one (x_not W (x_isiB W (wi z) (x_var 0) (isi_ok (gg := GG [] none) (u := fun _ => .type "bool") (z.says.fact 24 rfl)) (z.free 5) (z.free 25)))))))
theorem sc_is_number : FnScope N_is_number ["value", "least", "most"] (defScope s_is_number) := ⟨rfl, rfl, rfl, by decide +kernel, rfl, by decide +kernel, by decide +kernel⟩
theorem ok_is_number {cs : List (Addr × Addr)} {xa : Option (Addr × Nat × Option Addr)} {μ : Mu} (z : Says bs fn K mg) : ∃ fd, FunD K "is_number" "is_number" (defArgs s_is_number) (defBody s_is_number) (defScope s_is_number) (d_is_number.dvs K) [] (d_is_number.ad K) fd ∧ FnG μ P w K mg base 2 (d_is_number.ad K) fd ["value", "least", "most"] (spD (GG cs xa K) 3 f_is_number) := by
  obtain ⟨fd_is_integer, F_is_integer, O_is_integer⟩ := ok_is_integer (P := P) (w := w) (base := base) (cs := cs) (xa := xa) (μ := μ) z
  obtain ⟨fd, F⟩ := z.says.def_ 5 (d := d_is_number) rfl
  have sc := sc_is_number
  refine ⟨fd, F, fnG_ofF (fF := f_is_number) (body := b_is_number) F sc rfl nmL_nd (fun _ _ _ _ h => body_of h) fun calm pn cdv A outer s H E hcd W hr B => ?_⟩
  exact (s_one (s_ret (x_and W (x_fn W (z.glo 28) F_is_integer.kp O_is_integer (hr.mono (by decide)) (bp_none F_is_integer 1 [] [0] fun _ _ _ _ _ _ us ws l1 l2 => match us, ws, l1, l2 with | [_], [], _, _ => rfl) consts_nil B.ps (ca_pos (a_cons (x_var 0) a_nil))) (x_one (x_chain opr_le ops_le opr_le ops_le (x_var 1) (x_var 0) (x_var 2))))))
theorem sc_InvalidDayszz_initzz : FnScope N_InvalidDayszz_initzz ["self", "given"] (defScope s_InvalidDayszz_initzz) := ⟨rfl, rfl, rfl, by decide +kernel, rfl, by decide +kernel, by decide +kernel⟩
theorem ok_InvalidDayszz_initzz (z : Says bs fn K mg) : ∃ fd, FunD K "__init__" "InvalidDays.__init__" (defArgs s_InvalidDayszz_initzz) (defBody s_InvalidDayszz_initzz) (defScope s_InvalidDayszz_initzz) [] [] (d_InvalidDayszz_initzz.ad K) fd ∧ FnOk P w K mg base (L2N.CX P w) 1 (d_InvalidDayszz_initzz.ad K) fd ["self", "given"] (spI1 K "given") := by
  obtain ⟨fd, F⟩ := z.says.def_ 6 (d := d_InvalidDayszz_initzz) rfl
  exact ⟨fd, F, init1 F sc_InvalidDayszz_initzz rfl (.inl rfl) (.inl rfl) (by decide) (by decide) (by decide) (by decide)⟩
theorem sc_InvalidWavezz_initzz : FnScope N_InvalidWavezz_initzz ["self", "given"] (defScope s_InvalidWavezz_initzz) := ⟨rfl, rfl, rfl, by decide +kernel, rfl, by decide +kernel, by decide +kernel⟩
theorem ok_InvalidWavezz_initzz (z : Says bs fn K mg) : ∃ fd, FunD K "__init__" "InvalidWave.__init__" (defArgs s_InvalidWavezz_initzz) (defBody s_InvalidWavezz_initzz) (defScope s_InvalidWavezz_initzz) [] [] (d_InvalidWavezz_initzz.ad K) fd ∧ FnOk P w K mg base (L2N.CX P w) 1 (d_InvalidWavezz_initzz.ad K) fd ["self", "given"] (spI1 K "given") := by
  obtain ⟨fd, F⟩ := z.says.def_ 7 (d := d_InvalidWavezz_initzz) rfl
  exact ⟨fd, F, init1 F sc_InvalidWavezz_initzz rfl (.inl rfl) (.inl rfl) (by decide) (by decide) (by decide) (by decide)⟩
theorem sc_Housezz_initzz : FnScope N_Housezz_initzz ["self", "wave", "days", "silent", "declined"] (defScope s_Housezz_initzz) := ⟨rfl, rfl, rfl, by decide +kernel, rfl, by decide +kernel, by decide +kernel⟩
theorem ok_Housezz_initzz {cs : List (Addr × Addr)} {xa : Option (Addr × Nat × Option Addr)} (z : Says bs fn K mg) : ∃ fd, FunD K "__init__" "House.__init__" (defArgs s_Housezz_initzz) (defBody s_Housezz_initzz) (defScope s_Housezz_initzz) (d_Housezz_initzz.dvs K) [] (d_Housezz_initzz.ad K) fd ∧ FnG none P w K mg base 3 (d_Housezz_initzz.ad K) fd ["self", "wave", "days", "silent", "declined"] (spD (GG cs xa K) 5 f_Housezz_initzz) := by
  obtain ⟨fd_InvalidDayszz_initzz, F_InvalidDayszz_initzz, O_InvalidDayszz_initzz⟩ := ok_InvalidDayszz_initzz (P := P) (w := w) (base := base) z
  obtain ⟨fd_InvalidWavezz_initzz, F_InvalidWavezz_initzz, O_InvalidWavezz_initzz⟩ := ok_InvalidWavezz_initzz (P := P) (w := w) (base := base) z
  obtain ⟨fd_InvalidWordzz_initzz, F_InvalidWordzz_initzz, O_InvalidWordzz_initzz⟩ := ok_InvalidWordzz_initzz (P := P) (w := w) (base := base) z
  obtain ⟨fd_is_number, F_is_number, O_is_number⟩ := ok_is_number (P := P) (w := w) (base := base) (cs := cs) (xa := xa) (μ := none) z
  obtain ⟨fd_is_word, F_is_word, O_is_word⟩ := ok_is_word (P := P) (w := w) (base := base) (cs := cs) (xa := xa) (μ := none) z
  obtain ⟨fd, F⟩ := z.says.def_ 8 (d := d_Housezz_initzz) rfl
  have sc := sc_Housezz_initzz
  refine ⟨fd, F, fnG_ofF (fF := f_Housezz_initzz) (body := b_Housezz_initzz) F sc rfl nmL_nd (fun _ _ _ _ h => body_of h) fun calm pn cdv A outer s H E hcd W hr B => ?_⟩
  exact (s_cons (s_if (t_not (t_tru W (x_fn W (z.glo 30) F_is_number.kp O_is_number (hr.mono (by decide)) (bp_none F_is_number 3 [] [0, 1, 2] fun _ _ _ _ _ _ us ws l1 l2 => match us, ws, l1, l2 with | [_, _, _], [], _, _ => rfl) consts_nil B.ps (ca_pos (a_cons (x_var 1) (a_cons x_int (a_cons (x_conG (z.gint 35)) a_nil))))))) (s_one (s_raise1 (B.calm rfl) B (oex_ok (z.says.fact 38 rfl)) rfl (He.meth_ok (z.says.fact 36 rfl)).1 (fn_typ (He.meth_ok (z.says.fact 36 rfl)).fn) O_InvalidWavezz_initzz (Rm.room (hr.mono (by decide))) (L2.FunD.bindsN (ps := ["self", "given"]) F_InvalidWavezz_initzz fun _ _ _ _ _ _ us hl => match us, hl with | [_, _], _ => rfl) (z.glo 39) rfl (He.noat_ok (z.says.fact 37 rfl)) (a_cons (x_var 1) a_nil))) s_nil)
    (s_cons (s_if (t_not (t_tru W (x_fn W (z.glo 30) F_is_number.kp O_is_number (hr.mono (by decide)) (bp_none F_is_number 3 [] [0, 1, 2] fun _ _ _ _ _ _ us ws l1 l2 => match us, ws, l1, l2 with | [_, _, _], [], _, _ => rfl) consts_nil B.ps (ca_pos (a_cons (x_var 2) (a_cons x_int (a_cons (x_conG (z.gint 29)) a_nil))))))) (s_one (s_raise1 (B.calm rfl) B (oex_ok (z.says.fact 33 rfl)) rfl (He.meth_ok (z.says.fact 31 rfl)).1 (fn_typ (He.meth_ok (z.says.fact 31 rfl)).fn) O_InvalidDayszz_initzz (Rm.room (hr.mono (by decide))) (L2.FunD.bindsN (ps := ["self", "given"]) F_InvalidDayszz_initzz fun _ _ _ _ _ _ us hl => match us, hl with | [_, _], _ => rfl) (z.glo 34) rfl (He.noat_ok (z.says.fact 32 rfl)) (a_cons (x_var 2) a_nil))) s_nil)
    (s_cons (s_for W (B.calm rfl) B.own (i_seq W (x_tup (a_cons (x_var 3) (a_cons (x_var 4) a_nil)))) (p_name (i := 5) sc.nd) (gN_ok 5) (s_one (s_if (t_not (t_tru W (x_fn W (z.glo 19) F_is_word.kp O_is_word (hr.mono (by decide)) (bp_none F_is_word 1 [] [0] fun _ _ _ _ _ _ us ws l1 l2 => match us, ws, l1, l2 with | [_], [], _, _ => rfl) consts_nil B.ps (ca_pos (a_cons (x_var 5) a_nil))))) (s_one (s_raise1 (B.calm rfl) B (oex_ok (z.says.fact 22 rfl)) rfl (He.meth_ok (z.says.fact 20 rfl)).1 (fn_typ (He.meth_ok (z.says.fact 20 rfl)).fn) O_InvalidWordzz_initzz (Rm.room (hr.mono (by decide))) (L2.FunD.bindsN (ps := ["self", "given"]) F_InvalidWordzz_initzz fun _ _ _ _ _ _ us hl => match us, hl with | [_, _], _ => rfl) (z.glo 23) rfl (He.noat_ok (z.says.fact 21 rfl)) (a_cons (x_var 5) a_nil))) s_nil)))
    (s_cons (s_fld W (wc z) 0 (x_var 0) (x_var 1) rfl hx_0)
    (s_cons (s_fld W (wc z) 1 (x_var 0) (x_var 2) rfl hx_1)
    (s_cons (s_fld W (wc z) 2 (x_var 0) (x_var 3) rfl hx_2)
    (s_one (s_fld W (wc z) 3 (x_var 0) (x_var 4) rfl hx_3))))))))
theorem sc__law_house : FnScope N__law_house ["_law_rules_here"] (defScope s__law_house) := ⟨rfl, rfl, rfl, by decide +kernel, rfl, by decide +kernel, by decide +kernel⟩
theorem ok__law_house {cs : List (Addr × Addr)} {xa : Option (Addr × Nat × Option Addr)} (z : Says bs fn K mg) : ∃ fd, FunD K "_law_house" "_law_house" (defArgs s__law_house) (defBody s__law_house) (defScope s__law_house) (d__law_house.dvs K) [] (d__law_house.ad K) fd ∧ FnG none P w K mg base 5 (d__law_house.ad K) fd ["_law_rules_here"] (spD (GG cs xa K) 1 f__law_house) := by
  obtain ⟨fd_Housezz_initzz, F_Housezz_initzz, O_Housezz_initzz⟩ := ok_Housezz_initzz (P := P) (w := w) (base := base) (cs := cs) (xa := xa) z
  obtain ⟨fd, F⟩ := z.says.def_ 9 (d := d__law_house) rfl
  have sc := sc__law_house
  refine ⟨fd, F, fnG_ofF (fF := f__law_house) (body := b__law_house) F sc rfl nmL_nd (fun _ _ _ _ h => body_of h) fun calm pn cdv A outer s H E hcd W hr B => ?_⟩
  exact (s_one (s_ret (x_mk W rfl (z.glo 7) (He.mkr_ok (z.says.fact 40 rfl)) O_Housezz_initzz (hr.mono (by decide)) (bp_dfl F_Housezz_initzz 5 [] [0, 1, 2, 3, 4] (by simp [DefP.dvs, d_Housezz_initzz]) fun _ _ _ _ _ _ _ us its ws l1 l3 l2 => match us, its, ws, l1, (show its.length = 2 from l3), l2 with | [_, _, _, _, _], [_, _], [], _, _, _ => by first | exact .inr rfl | exact .inl ⟨_, rfl, rfl⟩) (consts_of (vs := d_Housezz_initzz.dfl)) B.ps (ca_pos (a_cons (x_ix W (x_var 0) x_int) (a_cons (x_ix W (x_var 0) x_int) (a_cons (x_ix W (x_var 0) x_int) (a_cons (x_ix W (x_var 0) x_int) a_nil))))))))
theorem sc_Housezz_reprzz : FnScope N_Housezz_reprzz ["self"] (defScope s_Housezz_reprzz) := ⟨rfl, rfl, rfl, by decide +kernel, rfl, by decide +kernel, by decide +kernel⟩
theorem ok_Housezz_reprzz {cs : List (Addr × Addr)} {xa : Option (Addr × Nat × Option Addr)} {μ : Mu} (z : Says bs fn K mg) : ∃ fd, FunD K "__repr__" "House.__repr__" (defArgs s_Housezz_reprzz) (defBody s_Housezz_reprzz) (defScope s_Housezz_reprzz) (d_Housezz_reprzz.dvs K) [] (d_Housezz_reprzz.ad K) fd ∧ FnG μ P w K mg base 1 (d_Housezz_reprzz.ad K) fd ["self"] (spD (GG cs xa K) 1 f_Housezz_reprzz) := by
  obtain ⟨fd, F⟩ := z.says.def_ 10 (d := d_Housezz_reprzz) rfl
  have sc := sc_Housezz_reprzz
  refine ⟨fd, F, fnG_ofF (fF := f_Housezz_reprzz) (body := b_Housezz_reprzz) F sc rfl nmL_nd (fun _ _ _ _ h => body_of h) fun calm pn cdv A outer s H E hcd W hr B => ?_⟩
  exact (s_one (s_ret (x_joined (.cons x_str (.cons (x_fmt (x_fld W (wc z) 1 (x_var 0) rfl hx_1)) (.cons x_str .nil))))))
theorem sc_Waitingzz_reprzz : FnScope N_Waitingzz_reprzz ["self"] (defScope s_Waitingzz_reprzz) := ⟨rfl, rfl, rfl, by decide +kernel, rfl, by decide +kernel, by decide +kernel⟩
theorem ok_Waitingzz_reprzz {cs : List (Addr × Addr)} {xa : Option (Addr × Nat × Option Addr)} {μ : Mu} (z : Says bs fn K mg) : ∃ fd, FunD K "__repr__" "Waiting.__repr__" (defArgs s_Waitingzz_reprzz) (defBody s_Waitingzz_reprzz) (defScope s_Waitingzz_reprzz) (d_Waitingzz_reprzz.dvs K) [] (d_Waitingzz_reprzz.ad K) fd ∧ FnG μ P w K mg base 1 (d_Waitingzz_reprzz.ad K) fd ["self"] (spD (GG cs xa K) 1 f_Waitingzz_reprzz) := by
  obtain ⟨fd, F⟩ := z.says.def_ 11 (d := d_Waitingzz_reprzz) rfl
  have sc := sc_Waitingzz_reprzz
  refine ⟨fd, F, fnG_ofF (fF := f_Waitingzz_reprzz) (body := b_Waitingzz_reprzz) F sc rfl nmL_nd (fun _ _ _ _ h => body_of h) fun calm pn cdv A outer s H E hcd W hr B => ?_⟩
  exact (s_one (s_ret (x_joined (.cons x_str (.cons (x_fmt (x_cb call_len f_len (a_cons (x_fld W (wc z) 14 (x_var 0) rfl hx_14) a_nil) (z.free 3))) (.cons x_str (.cons (x_fmt (x_fld W (wc z) 16 (x_var 0) rfl hx_16)) .nil)))))))
theorem sc_InvalidEntrieszz_initzz : FnScope N_InvalidEntrieszz_initzz ["self", "index"] (defScope s_InvalidEntrieszz_initzz) := ⟨rfl, rfl, rfl, by decide +kernel, rfl, by decide +kernel, by decide +kernel⟩
theorem ok_InvalidEntrieszz_initzz (z : Says bs fn K mg) : ∃ fd, FunD K "__init__" "InvalidEntries.__init__" (defArgs s_InvalidEntrieszz_initzz) (defBody s_InvalidEntrieszz_initzz) (defScope s_InvalidEntrieszz_initzz) [] [] (d_InvalidEntrieszz_initzz.ad K) fd ∧ FnOk P w K mg base (L2N.CX P w) 1 (d_InvalidEntrieszz_initzz.ad K) fd ["self", "index"] (spI1 K "index") := by
  obtain ⟨fd, F⟩ := z.says.def_ 12 (d := d_InvalidEntrieszz_initzz) rfl
  exact ⟨fd, F, init1 F sc_InvalidEntrieszz_initzz rfl (.inl rfl) (.inl rfl) (by decide) (by decide) (by decide) (by decide)⟩
theorem sc_is_name : FnScope N_is_name ["value"] (defScope s_is_name) := ⟨rfl, rfl, rfl, by decide +kernel, rfl, by decide +kernel, by decide +kernel⟩
theorem ok_is_name {cs : List (Addr × Addr)} {xa : Option (Addr × Nat × Option Addr)} (z : Says bs fn K mg) : ∃ fd, FunD K "is_name" "is_name" (defArgs s_is_name) (defBody s_is_name) (defScope s_is_name) (d_is_name.dvs K) [] (d_is_name.ad K) fd ∧ FnG none P w K mg base 1 (d_is_name.ad K) fd ["value"] (spD (GG cs xa K) 1 f_is_name) := by
  obtain ⟨fd, F⟩ := z.says.def_ 13 (d := d_is_name) rfl
  have sc := sc_is_name
  refine ⟨fd, F, fnG_ofF (fF := f_is_name) (body := b_is_name) F sc rfl nmL_nd (fun _ _ _ _ h => body_of h) fun calm pn cdv A outer s H E hcd W hr B => ?_⟩
  exact (s_cons (s_if (PW.pt (w_or (t_not (t_tru W (x_isiB W (wi z) (x_var 0) (isi_ok (gg := GG [] none) (u := fun _ => .type "str") (z.says.fact 17 rfl)) (z.free 5) (z.free 18)))) (w_or1 (t_not (t_chain opr_le ops_le opr_le ops_le x_int (x_cb call_len f_len (a_cons (x_var 0) a_nil) (z.free 3)) (x_conG (z.gint 52))))))) (s_one (s_ret x_bl)) s_nil)
    (s_one (s_ret (x_and W (x_in W (x_ix W (x_var 0) x_int) (x_conG (z.gstr 51))) (x_one (x_cb (cr_all (B.calm rfl)) f_all (a_cons (x_lc W (B.calm rfl) sc.nd (own := [("sign", 1)]) (i_seq W (x_var 0)) (blk_ok (by kernel_rfl)) (fun _ _ _ _ _ => (p_name (i := 1) sc.nd)) (gN_ok 1) (by decide) (fun _ _ _ _ _ => ts_nil) (fun _ _ _ _ _ => (x_in (Wf.blk W) (x_var 1) (x_conG (z.gstr 50))))) a_nil) (z.free 0)))))))
theorem sc_is_lot : FnScope N_is_lot ["value"] (defScope s_is_lot) := ⟨rfl, rfl, rfl, by decide +kernel, rfl, by decide +kernel, by decide +kernel⟩
theorem ok_is_lot {cs : List (Addr × Addr)} {xa : Option (Addr × Nat × Option Addr)} (z : Says bs fn K mg) : ∃ fd, FunD K "is_lot" "is_lot" (defArgs s_is_lot) (defBody s_is_lot) (defScope s_is_lot) (d_is_lot.dvs K) [] (d_is_lot.ad K) fd ∧ FnG none P w K mg base 2 (d_is_lot.ad K) fd ["value"] (spD (GG cs xa K) 1 f_is_lot) := by
  obtain ⟨fd_is_name, F_is_name, O_is_name⟩ := ok_is_name (P := P) (w := w) (base := base) (cs := cs) (xa := xa) z
  obtain ⟨fd, F⟩ := z.says.def_ 14 (d := d_is_lot) rfl
  have sc := sc_is_lot
  refine ⟨fd, F, fnG_ofF (fF := f_is_lot) (body := b_is_lot) F sc rfl nmL_nd (fun _ _ _ _ h => body_of h) fun calm pn cdv A outer s H E hcd W hr B => ?_⟩
  exact (s_cons (s_if (PW.pt (w_or (t_not (t_tru W (x_isiB W (wi z) (x_var 0) (isi_ok (gg := GG [] none) (u := fun _ => .type "tuple") (z.says.fact 55 rfl)) (z.free 5) (z.free 56)))) (w_or1 (t_not (t_chain opr_le ops_le opr_le ops_le x_int (x_cb call_len f_len (a_cons (x_var 0) a_nil) (z.free 3)) (x_conG (z.gint 54))))))) (s_one (s_ret x_bl)) s_nil)
    (s_cons (s_if (t_not (t_tru W (x_cb (cr_all (B.calm rfl)) f_all (a_cons (x_lc W (B.calm rfl) sc.nd (own := [("kind", 1)]) (i_seq W (x_var 0)) (blk_ok (by kernel_rfl)) (fun _ _ _ _ _ => (p_name (i := 1) sc.nd)) (gN_ok 1) (by decide) (fun _ _ _ _ _ => ts_nil) (fun _ _ _ _ _ => (x_fn (Wf.blk W) (z.glo 53) F_is_name.kp O_is_name ((Rm.blk hr).mono (by decide)) (bp_none F_is_name 1 [] [0] fun _ _ _ _ _ _ us ws l1 l2 => match us, ws, l1, l2 with | [_], [], _, _ => rfl) consts_nil passE0 (ca_pos (a_cons (x_var 1) a_nil))))) a_nil) (z.free 0)))) (s_one (s_ret x_bl)) s_nil)
    (s_one (s_ret (x_cb (cr_all (B.calm rfl)) f_all (a_cons (x_lc W (B.calm rfl) sc.nd (own := [("at", 2)]) (i_range2 (a_cons x_int (a_cons (x_cb call_len f_len (a_cons (x_var 0) a_nil) (z.free 3)) a_nil)) (z.free 4)) (blk_ok (by kernel_rfl)) (fun _ _ _ _ _ => (p_name (i := 2) sc.nd)) (gN_ok 2) (by decide) (fun _ _ _ _ _ => ts_nil) (fun _ _ _ _ _ => (x_lt (x_ix (Wf.blk W) (x_var 0) (x_sub (x_var 2) x_int)) (x_ix (Wf.blk W) (x_var 0) (x_var 2))))) a_nil) (z.free 0))))))
theorem sc_is_pair : FnScope N_is_pair ["value"] (defScope s_is_pair) := ⟨rfl, rfl, rfl, by decide +kernel, rfl, by decide +kernel, by decide +kernel⟩
theorem ok_is_pair {cs : List (Addr × Addr)} {xa : Option (Addr × Nat × Option Addr)} {μ : Mu} (z : Says bs fn K mg) : ∃ fd, FunD K "is_pair" "is_pair" (defArgs s_is_pair) (defBody s_is_pair) (defScope s_is_pair) (d_is_pair.dvs K) [] (d_is_pair.ad K) fd ∧ FnG μ P w K mg base 1 (d_is_pair.ad K) fd ["value"] (spD (GG cs xa K) 1 f_is_pair) := by
  obtain ⟨fd, F⟩ := z.says.def_ 15 (d := d_is_pair) rfl
  have sc := sc_is_pair
  refine ⟨fd, F, fnG_ofF (fF := f_is_pair) (body := b_is_pair) F sc rfl nmL_nd (fun _ _ _ _ h => body_of h) fun calm pn cdv A outer s H E hcd W hr B => ?_⟩
  exact (s_one (s_ret (x_and W (x_isiB W (wi z) (x_var 0) (isi_ok (gg := GG [] none) (u := fun _ => .type "tuple") (z.says.fact 55 rfl)) (z.free 5) (z.free 56)) (x_one (x_eq W (x_cb call_len f_len (a_cons (x_var 0) a_nil) (z.free 3)) x_int)))))
theorem sc_check_entries : FnScope N_check_entries ["entries"] (defScope s_check_entries) := ⟨rfl, rfl, rfl, by decide +kernel, rfl, by decide +kernel, by decide +kernel⟩
theorem ok_check_entries {cs : List (Addr × Addr)} {xa : Option (Addr × Nat × Option Addr)} (z : Says bs fn K mg) : ∃ fd, FunD K "check_entries" "check_entries" (defArgs s_check_entries) (defBody s_check_entries) (defScope s_check_entries) (d_check_entries.dvs K) [] (d_check_entries.ad K) fd ∧ FnG none P w K mg base 3 (d_check_entries.ad K) fd ["entries"] (spD (GG cs xa K) 1 f_check_entries) := by
  obtain ⟨fd_InvalidEntrieszz_initzz, F_InvalidEntrieszz_initzz, O_InvalidEntrieszz_initzz⟩ := ok_InvalidEntrieszz_initzz (P := P) (w := w) (base := base) z
  obtain ⟨fd_is_lot, F_is_lot, O_is_lot⟩ := ok_is_lot (P := P) (w := w) (base := base) (cs := cs) (xa := xa) z
  obtain ⟨fd_is_name, F_is_name, O_is_name⟩ := ok_is_name (P := P) (w := w) (base := base) (cs := cs) (xa := xa) z
  obtain ⟨fd_is_pair, F_is_pair, O_is_pair⟩ := ok_is_pair (P := P) (w := w) (base := base) (cs := cs) (xa := xa) (μ := none) z
  obtain ⟨fd, F⟩ := z.says.def_ 16 (d := d_check_entries) rfl
  have sc := sc_check_entries
  refine ⟨fd, F, fnG_ofF (fF := f_check_entries) (body := b_check_entries) F sc rfl nmL_nd (fun _ _ _ _ h => body_of h) fun calm pn cdv A outer s H E hcd W hr B => ?_⟩
  exact (s_cons (s_if (t_not (t_tru W (x_isiB W (wi z) (x_var 0) (isi_ok (gg := GG [] none) (u := fun _ => .type "tuple") (z.says.fact 55 rfl)) (z.free 5) (z.free 56)))) (s_one (s_raise1 (B.calm rfl) B (oex_ok (z.says.fact 48 rfl)) rfl (He.meth_ok (z.says.fact 46 rfl)).1 (fn_typ (He.meth_ok (z.says.fact 46 rfl)).fn) O_InvalidEntrieszz_initzz (Rm.room (hr.mono (by decide))) (L2.FunD.bindsN (ps := ["self", "index"]) F_InvalidEntrieszz_initzz fun _ _ _ _ _ _ us hl => match us, hl with | [_, _], _ => rfl) (z.glo 49) rfl (He.noat_ok (z.says.fact 47 rfl)) (a_cons x_non a_nil))) s_nil)
    (s_cons (s_set (i := 1) sc.nd (x_cel a_nil))
    (s_one (s_for W (B.calm rfl) B.own (i_enum W (a_cons (x_var 0) a_nil) (z.free 45)) (p_tup W (B.calm rfl) (pgs_cons (p_name (i := 2) sc.nd) (pgs_cons (p_name (i := 3) sc.nd) pgs_nil))) (gTu_ok (gCn_ok (gN_ok 2) (gCn_ok (gN_ok 3) gNl_ok))) (s_cons (s_if (PW.pt (w_or (t_eq W (x_var 2) (x_conG (z.gint 59))) (w_or (t_not (t_tru W (x_fn W (z.glo 58) F_is_pair.kp O_is_pair (hr.mono (by decide)) (bp_none F_is_pair 1 [] [0] fun _ _ _ _ _ _ us ws l1 l2 => match us, ws, l1, l2 with | [_], [], _, _ => rfl) consts_nil B.ps (ca_pos (a_cons (x_var 3) a_nil))))) (w_or (t_not (t_tru W (x_fn W (z.glo 53) F_is_name.kp O_is_name (hr.mono (by decide)) (bp_none F_is_name 1 [] [0] fun _ _ _ _ _ _ us ws l1 l2 => match us, ws, l1, l2 with | [_], [], _, _ => rfl) consts_nil B.ps (ca_pos (a_cons (x_ix W (x_var 3) x_int) a_nil))))) (w_or1 (t_not (t_tru W (x_fn W (z.glo 57) F_is_lot.kp O_is_lot (hr.mono (by decide)) (bp_none F_is_lot 1 [] [0] fun _ _ _ _ _ _ us ws l1 l2 => match us, ws, l1, l2 with | [_], [], _, _ => rfl) consts_nil B.ps (ca_pos (a_cons (x_ix W (x_var 3) x_int) a_nil)))))))))) (s_one (s_raise1 (B.calm rfl) B (oex_ok (z.says.fact 48 rfl)) rfl (He.meth_ok (z.says.fact 46 rfl)).1 (fn_typ (He.meth_ok (z.says.fact 46 rfl)).fn) O_InvalidEntrieszz_initzz (Rm.room (hr.mono (by decide))) (L2.FunD.bindsN (ps := ["self", "index"]) F_InvalidEntrieszz_initzz fun _ _ _ _ _ _ us hl => match us, hl with | [_, _], _ => rfl) (z.glo 49) rfl (He.noat_ok (z.says.fact 47 rfl)) (a_cons (x_var 2) a_nil))) s_nil)
    (s_cons (s_if (t_in W (x_ix W (x_var 3) x_int) (x_var 1)) (s_one (s_raise1 (B.calm rfl) B (oex_ok (z.says.fact 48 rfl)) rfl (He.meth_ok (z.says.fact 46 rfl)).1 (fn_typ (He.meth_ok (z.says.fact 46 rfl)).fn) O_InvalidEntrieszz_initzz (Rm.room (hr.mono (by decide))) (L2.FunD.bindsN (ps := ["self", "index"]) F_InvalidEntrieszz_initzz fun _ _ _ _ _ _ us hl => match us, hl with | [_, _], _ => rfl) (z.glo 49) rfl (He.noat_ok (z.says.fact 47 rfl)) (a_cons (x_var 2) a_nil))) s_nil)
    (s_one (s_expr (x_mt W PySem.F.plainAttrs_list PySem.F.slot_list_append PySem.F.type_list_append mt_append f_append (x_var 1) (a_cons (x_ix W (x_var 3) x_int) a_nil))))))))))
theorem sc_NotAHousezz_initzz : FnScope N_NotAHousezz_initzz ["self", "given"] (defScope s_NotAHousezz_initzz) := ⟨rfl, rfl, rfl, by decide +kernel, rfl, by decide +kernel, by decide +kernel⟩
theorem ok_NotAHousezz_initzz (z : Says bs fn K mg) : ∃ fd, FunD K "__init__" "NotAHouse.__init__" (defArgs s_NotAHousezz_initzz) (defBody s_NotAHousezz_initzz) (defScope s_NotAHousezz_initzz) [] [] (d_NotAHousezz_initzz.ad K) fd ∧ FnOk P w K mg base (L2N.CX P w) 1 (d_NotAHousezz_initzz.ad K) fd ["self", "given"] (spI1 K "given") := by
  obtain ⟨fd, F⟩ := z.says.def_ 17 (d := d_NotAHousezz_initzz) rfl
  exact ⟨fd, F, init1 F sc_NotAHousezz_initzz rfl (.inl rfl) (.inl rfl) (by decide) (by decide) (by decide) (by decide)⟩
theorem sc_check_house : FnScope N_check_house ["house"] (defScope s_check_house) := ⟨rfl, rfl, rfl, by decide +kernel, rfl, by decide +kernel, by decide +kernel⟩
theorem ok_check_house {cs : List (Addr × Addr)} {xa : Option (Addr × Nat × Option Addr)} (z : Says bs fn K mg) : ∃ fd, FunD K "check_house" "check_house" (defArgs s_check_house) (defBody s_check_house) (defScope s_check_house) (d_check_house.dvs K) [] (d_check_house.ad K) fd ∧ FnG none P w K mg base 3 (d_check_house.ad K) fd ["house"] (spD (GG cs xa K) 1 f_check_house) := by
  obtain ⟨fd_NotAHousezz_initzz, F_NotAHousezz_initzz, O_NotAHousezz_initzz⟩ := ok_NotAHousezz_initzz (P := P) (w := w) (base := base) z
  obtain ⟨fd, F⟩ := z.says.def_ 18 (d := d_check_house) rfl
  have sc := sc_check_house
  refine ⟨fd, F, fnG_ofF (fF := f_check_house) (body := b_check_house) F sc rfl nmL_nd (fun _ _ _ _ h => body_of h) fun calm pn cdv A outer s H E hcd W hr B => ?_⟩
  exact (s_one (s_if (t_not (t_tru W (x_isiO W (wi z) (x_var 0) (isi_ok (gg := GG [] none) (u := fun K => .ref (He.ga K "House")) (z.says.fact 6 rfl)) (z.free 5) (z.glo 7)))) (s_one (s_raise1 (B.calm rfl) B (oex_ok (z.says.fact 63 rfl)) rfl (He.meth_ok (z.says.fact 61 rfl)).1 (fn_typ (He.meth_ok (z.says.fact 61 rfl)).fn) O_NotAHousezz_initzz (Rm.room (hr.mono (by decide))) (L2.FunD.bindsN (ps := ["self", "given"]) F_NotAHousezz_initzz fun _ _ _ _ _ _ us hl => match us, hl with | [_, _], _ => rfl) (z.glo 64) rfl (He.noat_ok (z.says.fact 62 rfl)) (a_cons (x_var 0) a_nil))) s_nil))
theorem sc_Waitingzz_initzz : FnScope N_Waitingzz_initzz ["self", "house", "entries"] (defScope s_Waitingzz_initzz) := ⟨rfl, rfl, rfl, by decide +kernel, rfl, by decide +kernel, by decide +kernel⟩
theorem ok_Waitingzz_initzz {cs : List (Addr × Addr)} {xa : Option (Addr × Nat × Option Addr)} (z : Says bs fn K mg) : ∃ fd, FunD K "__init__" "Waiting.__init__" (defArgs s_Waitingzz_initzz) (defBody s_Waitingzz_initzz) (defScope s_Waitingzz_initzz) (d_Waitingzz_initzz.dvs K) [] (d_Waitingzz_initzz.ad K) fd ∧ FnG none P w K mg base 4 (d_Waitingzz_initzz.ad K) fd ["self", "house", "entries"] (spD (GG cs xa K) 3 f_Waitingzz_initzz) := by
  obtain ⟨fd_check_entries, F_check_entries, O_check_entries⟩ := ok_check_entries (P := P) (w := w) (base := base) (cs := cs) (xa := xa) z
  obtain ⟨fd_check_house, F_check_house, O_check_house⟩ := ok_check_house (P := P) (w := w) (base := base) (cs := cs) (xa := xa) z
  obtain ⟨fd, F⟩ := z.says.def_ 19 (d := d_Waitingzz_initzz) rfl
  have sc := sc_Waitingzz_initzz
  refine ⟨fd, F, fnG_ofF (fF := f_Waitingzz_initzz) (body := b_Waitingzz_initzz) F sc rfl nmL_nd (fun _ _ _ _ h => body_of h) fun calm pn cdv A outer s H E hcd W hr B => ?_⟩
  exact (s_cons (s_expr (x_fn W (z.glo 65) F_check_house.kp O_check_house (hr.mono (by decide)) (bp_none F_check_house 1 [] [0] fun _ _ _ _ _ _ us ws l1 l2 => match us, ws, l1, l2 with | [_], [], _, _ => rfl) consts_nil B.ps (ca_pos (a_cons (x_var 1) a_nil))))
    (s_cons (s_expr (x_fn W (z.glo 60) F_check_entries.kp O_check_entries (hr.mono (by decide)) (bp_none F_check_entries 1 [] [0] fun _ _ _ _ _ _ us ws l1 l2 => match us, ws, l1, l2 with | [_], [], _, _ => rfl) consts_nil B.ps (ca_pos (a_cons (x_var 2) a_nil))))
    (s_cons (s_fld W (wc z) 13 (x_var 0) (x_var 1) rfl hx_13)
    (s_cons (s_fld W (wc z) 14 (x_var 0) (x_var 2) rfl hx_14)
    (s_cons (s_fld W (wc z) 15 (x_var 0) (x_tup a_nil) rfl hx_15)
    (s_cons (s_fld W (wc z) 16 (x_var 0) x_int rfl hx_16)
    (s_one (s_fld W (wc z) 17 (x_var 0) (x_tup a_nil) rfl hx_17))))))))
theorem sc__law_pick : FnScope N__law_pick ["_law_purse_here", "_law_many"] (defScope s__law_pick) := ⟨rfl, rfl, rfl, by decide +kernel, rfl, by decide +kernel, by decide +kernel⟩
theorem ok__law_pick {cs : List (Addr × Addr)} {xa : Option (Addr × Nat × Option Addr)} (z : Says bs fn K mg) : ∃ fd, FunD K "_law_pick" "_law_pick" (defArgs s__law_pick) (defBody s__law_pick) (defScope s__law_pick) (d__law_pick.dvs K) [] (d__law_pick.ad K) fd ∧ FnG none P w K mg base 1 (d__law_pick.ad K) fd ["_law_purse_here", "_law_many"] (spD (GG cs xa K) 2 f__law_pick) := by
  obtain ⟨fd, F⟩ := z.says.def_ 20 (d := d__law_pick) rfl
  have sc := sc__law_pick
  refine ⟨fd, F, fnG_ofF (fF := f__law_pick) (body := b__law_pick) F sc rfl nmL_nd (fun _ _ _ _ h => body_of h) fun calm pn cdv A outer s H E hcd W hr B => ?_⟩
  exact (s_cons (s_sub (x_add W (x_ix W (x_var 0) x_int) x_int) (x_var 0) x_int)
    (s_cons (s_par W (B.calm rfl) (i := 2) (j := 3) sc.nd (a_cons (x_ct call_intA f_int (a_cons (x_ix W (x_var 0) x_int) a_nil) (z.free 27)) (a_cons (x_ix W (x_var 0) x_int) a_nil)))
    (s_cons (s_set (i := 4) sc.nd (x_mul (x_add W (x_var 2) (x_mul x_int (x_var 3))) (x_add W (x_mod (x_ct call_intA f_int (a_cons (x_var 2) a_nil) (z.free 27)) x_int) x_int)))
    (s_cons (s_sub (x_mod (x_ct call_intA f_int (a_cons (x_add W (x_add W (x_var 4) (x_mul x_int (x_var 3))) x_int) a_nil) (z.free 27)) x_int) (x_var 0) x_int)
    (s_cons (s_if (t_gt (x_ix W (x_var 0) x_int) x_int) (s_cons (s_asq (x_cb call_divmodP f_divmod (a_cons (x_ix W (x_var 0) x_int) (a_cons (x_var 1) a_nil)) (z.free 67)) (p_tup W (B.calm rfl) (pgs_cons (p_sub (x_var 0) x_int) (pgs_cons (p_name (i := 5) sc.nd) pgs_nil))) (qTu_ok (qCn_ok qSub_ok (qCn_ok (qN_ok 5) qNl_ok))))
    (s_one (s_ret (x_var 5)))) s_nil)
    (s_one (s_ret (x_mod (x_ct call_intA f_int (a_cons (x_fdiv (x_ix W (x_var 0) x_int) x_int) a_nil) (z.free 27)) (x_var 1)))))))))
theorem sc_Housezz_strzz : FnScope N_Housezz_strzz ["self"] (defScope s_Housezz_strzz) := ⟨rfl, rfl, rfl, by decide +kernel, rfl, by decide +kernel, by decide +kernel⟩
theorem ok_Housezz_strzz {cs : List (Addr × Addr)} {xa : Option (Addr × Nat × Option Addr)} {μ : Mu} (z : Says bs fn K mg) : ∃ fd, FunD K "__str__" "House.__str__" (defArgs s_Housezz_strzz) (defBody s_Housezz_strzz) (defScope s_Housezz_strzz) (d_Housezz_strzz.dvs K) [] (d_Housezz_strzz.ad K) fd ∧ FnG μ P w K mg base 1 (d_Housezz_strzz.ad K) fd ["self"] (spD (GG cs xa K) 1 f_Housezz_strzz) := by
  obtain ⟨fd, F⟩ := z.says.def_ 21 (d := d_Housezz_strzz) rfl
  have sc := sc_Housezz_strzz
  refine ⟨fd, F, fnG_ofF (fF := f_Housezz_strzz) (body := b_Housezz_strzz) F sc rfl nmL_nd (fun _ _ _ _ h => body_of h) fun calm pn cdv A outer s H E hcd W hr B => ?_⟩
  exact (s_one (s_ret (x_joined (.cons x_str (.cons (x_fmt (x_fld W (wc z) 0 (x_var 0) rfl hx_0)) (.cons x_str (.cons (x_fmt (x_fld W (wc z) 1 (x_var 0) rfl hx_1)) (.cons x_str (.cons (x_fmt (x_fld W (wc z) 2 (x_var 0) rfl hx_2)) (.cons x_str (.cons (x_fmt (x_fld W (wc z) 3 (x_var 0) rfl hx_3)) .nil)))))))))))
theorem sc__law_spare : FnScope N__law_spare ["_law_found"] (defScope s__law_spare) := ⟨rfl, rfl, rfl, by decide +kernel, rfl, by decide +kernel, by decide +kernel⟩
theorem ok__law_spare {cs : List (Addr × Addr)} {xa : Option (Addr × Nat × Option Addr)} (z : Says bs fn K mg) : ∃ fd, FunD K "_law_spare" "_law_spare" (defArgs s__law_spare) (defBody s__law_spare) (defScope s__law_spare) (d__law_spare.dvs K) [] (d__law_spare.ad K) fd ∧ FnG none P w K mg base 4 (d__law_spare.ad K) fd ["_law_found"] (spD (GG cs xa K) 1 f__law_spare) := by
  obtain ⟨fd_Housezz_strzz, F_Housezz_strzz, O_Housezz_strzz⟩ := ok_Housezz_strzz (P := P) (w := w) (base := base) (cs := cs) (xa := xa) (μ := none) z
  obtain ⟨fd, F⟩ := z.says.def_ 22 (d := d__law_spare) rfl
  have sc := sc__law_spare
  refine ⟨fd, F, fnG_ofF (fF := f__law_spare) (body := b__law_spare) F sc rfl nmL_nd (fun _ _ _ _ h => body_of h) fun calm pn cdv A outer s H E hcd W hr B => ?_⟩
  exact (s_cons (s_for W (B.calm rfl) B.own (i_range1 (a_cons (x_add W (x_cb call_len f_len (a_cons (x_var 0) a_nil) (z.free 3)) x_int) a_nil) (z.free 4)) (p_name (i := 1) sc.nd) (gN_ok 1) (s_one (s_if (t_notIn W (x_add W x_str (x_strO (k := 1) W (duns_cons ⟨⟨He.ga K "House", _, _, _, rfl, (spec_ok (z.says.fact 69 rfl)).1, (spec_ok (z.says.fact 69 rfl)).2, O_Housezz_strzz.mono (by decide), (bp_none F_Housezz_strzz 1 [] [0] fun _ _ _ _ _ _ us ws l1 l2 => match us, ws, l1, l2 with | [_], [], _, _ => rfl)⟩⟩ duns_nil) (hr.mono (by decide)) B.ps (x_add W (x_cb call_len f_len (a_cons (x_var 0) a_nil) (z.free 3)) (x_var 1)) (z.free 18))) (x_var 0)) (s_one (s_ret (x_add W x_str (x_strO (k := 1) W (duns_cons ⟨⟨He.ga K "House", _, _, _, rfl, (spec_ok (z.says.fact 69 rfl)).1, (spec_ok (z.says.fact 69 rfl)).2, O_Housezz_strzz.mono (by decide), (bp_none F_Housezz_strzz 1 [] [0] fun _ _ _ _ _ _ us ws l1 l2 => match us, ws, l1, l2 with | [_], [], _, _ => rfl)⟩⟩ duns_nil) (hr.mono (by decide)) B.ps (x_add W (x_cb call_len f_len (a_cons (x_var 0) a_nil) (z.free 3)) (x_var 1)) (z.free 18))))) s_nil)))
    (s_one (s_ret x_str)))
theorem sc__law_near_lists : FnScope N__law_near_lists ["_law_purse_here", "_law_rules_here", "_law_crowd"] (defScope s__law_near_lists) := ⟨rfl, rfl, rfl, by decide +kernel, rfl, by decide +kernel, by decide +kernel⟩
theorem ok__law_near_lists {cs : List (Addr × Addr)} {xa : Option (Addr × Nat × Option Addr)} (z : Says bs fn K mg) : ∃ fd, FunD K "_law_near_lists" "_law_near_lists" (defArgs s__law_near_lists) (defBody s__law_near_lists) (defScope s__law_near_lists) (d__law_near_lists.dvs K) [] (d__law_near_lists.ad K) fd ∧ FnG none P w K mg base 6 (d__law_near_lists.ad K) fd ["_law_purse_here", "_law_rules_here", "_law_crowd"] (spD (GG cs xa K) 3 f__law_near_lists) := by
  obtain ⟨fd_Housezz_initzz, F_Housezz_initzz, O_Housezz_initzz⟩ := ok_Housezz_initzz (P := P) (w := w) (base := base) (cs := cs) (xa := xa) z
  obtain ⟨fd_Waitingzz_initzz, F_Waitingzz_initzz, O_Waitingzz_initzz⟩ := ok_Waitingzz_initzz (P := P) (w := w) (base := base) (cs := cs) (xa := xa) z
  obtain ⟨fd__law_house, F__law_house, O__law_house⟩ := ok__law_house (P := P) (w := w) (base := base) (cs := cs) (xa := xa) z
  obtain ⟨fd__law_pick, F__law_pick, O__law_pick⟩ := ok__law_pick (P := P) (w := w) (base := base) (cs := cs) (xa := xa) z
  obtain ⟨fd__law_spare, F__law_spare, O__law_spare⟩ := ok__law_spare (P := P) (w := w) (base := base) (cs := cs) (xa := xa) z
  obtain ⟨fd, F⟩ := z.says.def_ 23 (d := d__law_near_lists) rfl
  have sc := sc__law_near_lists
  refine ⟨fd, F, fnG_ofF (fF := f__law_near_lists) (body := b__law_near_lists) F sc rfl nmL_nd (fun _ _ _ _ h => body_of h) fun calm pn cdv A outer s H E hcd W hr B => ?_⟩
  exact (s_cons (s_set (i := 3) sc.nd (x_lst (a_cons x_str (a_cons x_str (a_cons x_str a_nil)))))
    (s_cons (s_set (i := 4) sc.nd (x_ix W (x_var 3) (x_mod (x_ct call_intA f_int (a_cons (x_add W (x_add W (x_mt W PySem.F.plainAttrs_list PySem.F.slot_list_index PySem.F.type_list_index (mt_indexD (by have := W.units; omega)) f_index (x_var 3) (a_cons (x_ix W (x_var 1) x_int) a_nil)) x_int) (x_fn W (z.glo 68) F__law_pick.kp O__law_pick (hr.mono (by decide)) (bp_none F__law_pick 2 [] [0, 1] fun _ _ _ _ _ _ us ws l1 l2 => match us, ws, l1, l2 with | [_, _], [], _, _ => rfl) consts_nil B.ps (ca_pos (a_cons (x_var 0) (a_cons x_int a_nil))))) a_nil) (z.free 27)) x_int)))
    (s_cons (s_set (i := 5) sc.nd (x_cel (a_cons (x_mk W rfl (z.glo 11) (He.mkr_ok (z.says.fact 66 rfl)) O_Waitingzz_initzz (hr.mono (by decide)) (bp_none F_Waitingzz_initzz 3 [] [0, 1, 2] fun _ _ _ _ _ _ us ws l1 l2 => match us, ws, l1, l2 with | [_, _, _], [], _, _ => rfl) consts_nil B.ps (ca_pos (a_cons (x_mk W rfl (z.glo 7) (He.mkr_ok (z.says.fact 40 rfl)) O_Housezz_initzz (hr.mono (by decide)) (bp_dfl F_Housezz_initzz 5 [] [0, 1, 2, 3, 4] (by simp [DefP.dvs, d_Housezz_initzz]) fun _ _ _ _ _ _ _ us its ws l1 l3 l2 => match us, its, ws, l1, (show its.length = 2 from l3), l2 with | [_, _, _, _, _], [_, _], [], _, _, _ => by first | exact .inr rfl | exact .inl ⟨_, rfl, rfl⟩) (consts_of (vs := d_Housezz_initzz.dfl)) B.ps (ca_pos (a_cons (x_ix W (x_var 1) x_int) (a_cons (x_ix W (x_var 1) x_int) (a_cons (x_var 4) (a_cons (x_ix W (x_var 1) x_int) a_nil)))))) (a_cons (x_var 2) a_nil)))) a_nil)))
    (s_cons (s_expr (x_mt W PySem.F.plainAttrs_list PySem.F.slot_list_append PySem.F.type_list_append mt_append f_append (x_var 5) (a_cons (x_mk W rfl (z.glo 11) (He.mkr_ok (z.says.fact 66 rfl)) O_Waitingzz_initzz (hr.mono (by decide)) (bp_none F_Waitingzz_initzz 3 [] [0, 1, 2] fun _ _ _ _ _ _ us ws l1 l2 => match us, ws, l1, l2 with | [_, _, _], [], _, _ => rfl) consts_nil B.ps (ca_pos (a_cons (x_fn W (z.glo 41) F__law_house.kp O__law_house (hr.mono (by decide)) (bp_none F__law_house 1 [] [0] fun _ _ _ _ _ _ us ws l1 l2 => match us, ws, l1, l2 with | [_], [], _, _ => rfl) consts_nil B.ps (ca_pos (a_cons (x_lst (a_cons (x_add W (x_mod (x_ct call_intA f_int (a_cons (x_ix W (x_var 1) x_int) a_nil) (z.free 27)) x_int) x_int) (a_cons (x_ix W (x_var 1) x_int) (a_cons (x_ix W (x_var 1) x_int) (a_cons (x_ix W (x_var 1) x_int) a_nil))))) a_nil))) (a_cons (x_var 2) a_nil)))) a_nil)))
    (s_cons (s_if (t_lt (x_cb call_len f_len (a_cons (x_var 2) a_nil) (z.free 3)) x_int) (s_one (s_expr (x_mt W PySem.F.plainAttrs_list PySem.F.slot_list_append PySem.F.type_list_append mt_append f_append (x_var 5) (a_cons (x_mk W rfl (z.glo 11) (He.mkr_ok (z.says.fact 66 rfl)) O_Waitingzz_initzz (hr.mono (by decide)) (bp_none F_Waitingzz_initzz 3 [] [0, 1, 2] fun _ _ _ _ _ _ us ws l1 l2 => match us, ws, l1, l2 with | [_, _, _], [], _, _ => rfl) consts_nil B.ps (ca_pos (a_cons (x_fn W (z.glo 41) F__law_house.kp O__law_house (hr.mono (by decide)) (bp_none F__law_house 1 [] [0] fun _ _ _ _ _ _ us ws l1 l2 => match us, ws, l1, l2 with | [_], [], _, _ => rfl) consts_nil B.ps (ca_pos (a_cons (x_var 1) a_nil))) (a_cons (x_add W (x_var 2) (x_tup (a_cons (x_tup (a_cons (x_fn W (z.glo 70) F__law_spare.kp O__law_spare (hr.mono (by decide)) (bp_none F__law_spare 1 [] [0] fun _ _ _ _ _ _ us ws l1 l2 => match us, ws, l1, l2 with | [_], [], _, _ => rfl) consts_nil B.ps (ca_pos (a_cons (x_lc W (B.calm rfl) sc.nd (own := [("_law_who", 6), ("_law_lot_here", 7)]) (i_seq W (x_var 2)) (blk_ok (by kernel_rfl)) (fun _ _ _ _ _ => (p_tup (Wf.blk W) (B.calm rfl) (pgs_cons (p_name (i := 6) sc.nd) (pgs_cons (p_name (i := 7) sc.nd) pgs_nil)))) (gTu_ok (gCn_ok (gN_ok 6) (gCn_ok (gN_ok 7) gNl_ok))) (by decide) (fun _ _ _ _ _ => ts_nil) (fun _ _ _ _ _ => (x_var 6))) a_nil))) (a_cons (x_tup (a_cons x_str a_nil)) a_nil))) a_nil))) a_nil)))) a_nil)))) s_nil)
    (s_cons (s_if (t_ne W (x_var 2) (x_tup a_nil)) (s_cons (s_set (i := 8) sc.nd (x_fn W (z.glo 68) F__law_pick.kp O__law_pick (hr.mono (by decide)) (bp_none F__law_pick 2 [] [0, 1] fun _ _ _ _ _ _ us ws l1 l2 => match us, ws, l1, l2 with | [_, _], [], _, _ => rfl) consts_nil B.ps (ca_pos (a_cons (x_var 0) (a_cons (x_cb call_len f_len (a_cons (x_var 2) a_nil) (z.free 3)) a_nil)))))
    (s_cons (s_asg (x_ix W (x_var 2) (x_var 8)) (p_tup W (B.calm rfl) (pgs_cons (p_name (i := 6) sc.nd) (pgs_cons (p_name (i := 9) sc.nd) pgs_nil))) (gTu_ok (gCn_ok (gN_ok 6) (gCn_ok (gN_ok 9) gNl_ok))))
    (s_cons (s_expr (x_mt W PySem.F.plainAttrs_list PySem.F.slot_list_append PySem.F.type_list_append mt_append f_append (x_var 5) (a_cons (x_mk W rfl (z.glo 11) (He.mkr_ok (z.says.fact 66 rfl)) O_Waitingzz_initzz (hr.mono (by decide)) (bp_none F_Waitingzz_initzz 3 [] [0, 1, 2] fun _ _ _ _ _ _ us ws l1 l2 => match us, ws, l1, l2 with | [_, _, _], [], _, _ => rfl) consts_nil B.ps (ca_pos (a_cons (x_fn W (z.glo 41) F__law_house.kp O__law_house (hr.mono (by decide)) (bp_none F__law_house 1 [] [0] fun _ _ _ _ _ _ us ws l1 l2 => match us, ws, l1, l2 with | [_], [], _, _ => rfl) consts_nil B.ps (ca_pos (a_cons (x_var 1) a_nil))) (a_cons (x_add W (x_sl W (x_var 2) p_none (p_some (x_var 8))) (x_sl W (x_var 2) (p_some (x_add W (x_var 8) x_int)) p_none)) a_nil)))) a_nil)))
    (s_cons (s_set (i := 10) sc.nd (x_if (t_eq W (x_var 9) (x_tup (a_cons x_str a_nil))) (x_tup (a_cons x_str a_nil)) (x_tup (a_cons x_str a_nil))))
    (s_one (s_expr (x_mt W PySem.F.plainAttrs_list PySem.F.slot_list_append PySem.F.type_list_append mt_append f_append (x_var 5) (a_cons (x_mk W rfl (z.glo 11) (He.mkr_ok (z.says.fact 66 rfl)) O_Waitingzz_initzz (hr.mono (by decide)) (bp_none F_Waitingzz_initzz 3 [] [0, 1, 2] fun _ _ _ _ _ _ us ws l1 l2 => match us, ws, l1, l2 with | [_, _, _], [], _, _ => rfl) consts_nil B.ps (ca_pos (a_cons (x_fn W (z.glo 41) F__law_house.kp O__law_house (hr.mono (by decide)) (bp_none F__law_house 1 [] [0] fun _ _ _ _ _ _ us ws l1 l2 => match us, ws, l1, l2 with | [_], [], _, _ => rfl) consts_nil B.ps (ca_pos (a_cons (x_var 1) a_nil))) (a_cons (x_add W (x_add W (x_sl W (x_var 2) p_none (p_some (x_var 8))) (x_tup (a_cons (x_tup (a_cons (x_var 6) (a_cons (x_var 10) a_nil))) a_nil))) (x_sl W (x_var 2) (p_some (x_add W (x_var 8) x_int)) p_none)) a_nil)))) a_nil)))))))) s_nil)
    (s_cons (s_if (t_gt (x_cb call_len f_len (a_cons (x_var 2) a_nil) (z.free 3)) x_int) (s_one (s_expr (x_mt W PySem.F.plainAttrs_list PySem.F.slot_list_append PySem.F.type_list_append mt_append f_append (x_var 5) (a_cons (x_mk W rfl (z.glo 11) (He.mkr_ok (z.says.fact 66 rfl)) O_Waitingzz_initzz (hr.mono (by decide)) (bp_none F_Waitingzz_initzz 3 [] [0, 1, 2] fun _ _ _ _ _ _ us ws l1 l2 => match us, ws, l1, l2 with | [_, _, _], [], _, _ => rfl) consts_nil B.ps (ca_pos (a_cons (x_fn W (z.glo 41) F__law_house.kp O__law_house (hr.mono (by decide)) (bp_none F__law_house 1 [] [0] fun _ _ _ _ _ _ us ws l1 l2 => match us, ws, l1, l2 with | [_], [], _, _ => rfl) consts_nil B.ps (ca_pos (a_cons (x_var 1) a_nil))) (a_cons (x_add W (x_sl W (x_var 2) (p_some x_int) p_none) (x_sl W (x_var 2) p_none (p_some x_int))) a_nil)))) a_nil)))) s_nil)
    (s_one (s_ret (x_var 5))))))))))
theorem sc_InvalidEventszz_initzz : FnScope N_InvalidEventszz_initzz ["self", "index"] (defScope s_InvalidEventszz_initzz) := ⟨rfl, rfl, rfl, by decide +kernel, rfl, by decide +kernel, by decide +kernel⟩
theorem ok_InvalidEventszz_initzz (z : Says bs fn K mg) : ∃ fd, FunD K "__init__" "InvalidEvents.__init__" (defArgs s_InvalidEventszz_initzz) (defBody s_InvalidEventszz_initzz) (defScope s_InvalidEventszz_initzz) [] [] (d_InvalidEventszz_initzz.ad K) fd ∧ FnOk P w K mg base (L2N.CX P w) 1 (d_InvalidEventszz_initzz.ad K) fd ["self", "index"] (spI1 K "index") := by
  obtain ⟨fd, F⟩ := z.says.def_ 24 (d := d_InvalidEventszz_initzz) rfl
  exact ⟨fd, F, init1 F sc_InvalidEventszz_initzz rfl (.inl rfl) (.inl rfl) (by decide) (by decide) (by decide) (by decide)⟩
theorem sc_Waiting_led : FnScope N_Waiting_led ["self", "days"] (defScope s_Waiting_led) := ⟨rfl, rfl, rfl, by decide +kernel, rfl, by decide +kernel, by decide +kernel⟩
theorem ok_Waiting_led {cs : List (Addr × Addr)} {xa : Option (Addr × Nat × Option Addr)} (z : Says bs fn K mg) : ∃ fd, FunD K "led" "Waiting.led" (defArgs s_Waiting_led) (defBody s_Waiting_led) (defScope s_Waiting_led) (d_Waiting_led.dvs K) [] (d_Waiting_led.ad K) fd ∧ FnG none P w K mg base 3 (d_Waiting_led.ad K) fd ["self", "days"] (spD (GG cs xa K) 2 f_Waiting_led) := by
  obtain ⟨fd_InvalidEventszz_initzz, F_InvalidEventszz_initzz, O_InvalidEventszz_initzz⟩ := ok_InvalidEventszz_initzz (P := P) (w := w) (base := base) z
  obtain ⟨fd, F⟩ := z.says.def_ 25 (d := d_Waiting_led) rfl
  have sc := sc_Waiting_led
  refine ⟨fd, F, fnG_ofF (fF := f_Waiting_led) (body := b_Waiting_led) F sc rfl nmL_nd (fun _ _ _ _ h => body_of h) fun calm pn cdv A outer s H E hcd W hr B => ?_⟩
  exact (s_cons (s_if (t_not (t_tru W (x_isiB W (wi z) (x_var 1) (isi_ok (gg := GG [] none) (u := fun _ => .type "tuple") (z.says.fact 55 rfl)) (z.free 5) (z.free 56)))) (s_one (s_raise1 (B.calm rfl) B (oex_ok (z.says.fact 74 rfl)) rfl (He.meth_ok (z.says.fact 72 rfl)).1 (fn_typ (He.meth_ok (z.says.fact 72 rfl)).fn) O_InvalidEventszz_initzz (Rm.room (hr.mono (by decide))) (L2.FunD.bindsN (ps := ["self", "index"]) F_InvalidEventszz_initzz fun _ _ _ _ _ _ us hl => match us, hl with | [_, _], _ => rfl) (z.glo 75) rfl (He.noat_ok (z.says.fact 73 rfl)) (a_cons x_non a_nil))) s_nil)
    (s_cons (s_set (i := 2) sc.nd (x_var 0))
    (s_cons (s_for W (B.calm rfl) B.own (i_enum W (a_cons (x_var 1) a_nil) (z.free 45)) (p_tup W (B.calm rfl) (pgs_cons (p_name (i := 3) sc.nd) (pgs_cons (p_name (i := 4) sc.nd) pgs_nil))) (gTu_ok (gCn_ok (gN_ok 3) (gCn_ok (gN_ok 4) gNl_ok))) (s_one s_never))
    (s_one (s_ret (x_var 2))))))
theorem sc_Waiting_house : FnScope N_Waiting_house ["self"] (defScope s_Waiting_house) := ⟨rfl, rfl, rfl, by decide +kernel, rfl, by decide +kernel, by decide +kernel⟩
theorem ok_Waiting_house {cs : List (Addr × Addr)} {xa : Option (Addr × Nat × Option Addr)} {μ : Mu} (z : Says bs fn K mg) : ∃ fd, FunD K "house" "Waiting.house" (defArgs s_Waiting_house) (defBody s_Waiting_house) (defScope s_Waiting_house) (d_Waiting_house.dvs K) [] (d_Waiting_house.ad K) fd ∧ FnG μ P w K mg base 1 (d_Waiting_house.ad K) fd ["self"] (spD (GG cs xa K) 1 f_Waiting_house) := by
  obtain ⟨fd, F⟩ := z.says.def_ 26 (d := d_Waiting_house) rfl
  have sc := sc_Waiting_house
  refine ⟨fd, F, fnG_ofF (fF := f_Waiting_house) (body := b_Waiting_house) F sc rfl nmL_nd (fun _ _ _ _ h => body_of h) fun calm pn cdv A outer s H E hcd W hr B => ?_⟩
  exact (s_one (s_ret (x_fld W (wc z) 13 (x_var 0) rfl hx_13)))
theorem sc__law_house_text : FnScope N__law_house_text ["_law_rules_here"] (defScope s__law_house_text) := ⟨rfl, rfl, rfl, by decide +kernel, rfl, by decide +kernel, by decide +kernel⟩
theorem ok__law_house_text {cs : List (Addr × Addr)} {xa : Option (Addr × Nat × Option Addr)} {μ : Mu} (z : Says bs fn K mg) : ∃ fd, FunD K "_law_house_text" "_law_house_text" (defArgs s__law_house_text) (defBody s__law_house_text) (defScope s__law_house_text) (d__law_house_text.dvs K) [] (d__law_house_text.ad K) fd ∧ FnG μ P w K mg base 4 (d__law_house_text.ad K) fd ["_law_rules_here"] (spD (GG cs xa K) 1 f__law_house_text) := by
  obtain ⟨fd_Housezz_strzz, F_Housezz_strzz, O_Housezz_strzz⟩ := ok_Housezz_strzz (P := P) (w := w) (base := base) (cs := cs) (xa := xa) (μ := μ) z
  obtain ⟨fd, F⟩ := z.says.def_ 27 (d := d__law_house_text) rfl
  have sc := sc__law_house_text
  refine ⟨fd, F, fnG_ofF (fF := f__law_house_text) (body := b__law_house_text) F sc rfl nmL_nd (fun _ _ _ _ h => body_of h) fun calm pn cdv A outer s H E hcd W hr B => ?_⟩
  exact (s_cons (s_set (i := 1) sc.nd (x_add W (x_add W (x_add W x_str (x_strO (k := 1) W (duns_cons ⟨⟨He.ga K "House", _, _, _, rfl, (spec_ok (z.says.fact 69 rfl)).1, (spec_ok (z.says.fact 69 rfl)).2, O_Housezz_strzz.mono (by decide), (bp_none F_Housezz_strzz 1 [] [0] fun _ _ _ _ _ _ us ws l1 l2 => match us, ws, l1, l2 with | [_], [], _, _ => rfl)⟩⟩ duns_nil) (hr.mono (by decide)) B.ps (x_ix W (x_var 0) x_int) (z.free 18))) x_str) (x_strO (k := 1) W (duns_cons ⟨⟨He.ga K "House", _, _, _, rfl, (spec_ok (z.says.fact 69 rfl)).1, (spec_ok (z.says.fact 69 rfl)).2, O_Housezz_strzz.mono (by decide), (bp_none F_Housezz_strzz 1 [] [0] fun _ _ _ _ _ _ us ws l1 l2 => match us, ws, l1, l2 with | [_], [], _, _ => rfl)⟩⟩ duns_nil) (hr.mono (by decide)) B.ps (x_ix W (x_var 0) x_int) (z.free 18))))
    (s_one (s_ret (x_add W (x_add W (x_add W (x_add W (x_var 1) x_str) (x_ix W (x_var 0) x_int)) x_str) (x_ix W (x_var 0) x_int)))))
theorem sc_House_wave : FnScope N_House_wave ["self"] (defScope s_House_wave) := ⟨rfl, rfl, rfl, by decide +kernel, rfl, by decide +kernel, by decide +kernel⟩
theorem ok_House_wave {cs : List (Addr × Addr)} {xa : Option (Addr × Nat × Option Addr)} {μ : Mu} (z : Says bs fn K mg) : ∃ fd, FunD K "wave" "House.wave" (defArgs s_House_wave) (defBody s_House_wave) (defScope s_House_wave) (d_House_wave.dvs K) [] (d_House_wave.ad K) fd ∧ FnG μ P w K mg base 1 (d_House_wave.ad K) fd ["self"] (spD (GG cs xa K) 1 f_House_wave) := by
  obtain ⟨fd, F⟩ := z.says.def_ 28 (d := d_House_wave) rfl
  have sc := sc_House_wave
  refine ⟨fd, F, fnG_ofF (fF := f_House_wave) (body := b_House_wave) F sc rfl nmL_nd (fun _ _ _ _ h => body_of h) fun calm pn cdv A outer s H E hcd W hr B => ?_⟩
  exact (s_one (s_ret (x_fld W (wc z) 0 (x_var 0) rfl hx_0)))
theorem sc_next_names : FnScope N_next_names ["day", "place"] (defScope s_next_names) := ⟨rfl, rfl, rfl, by decide +kernel, rfl, by decide +kernel, by decide +kernel⟩
theorem ok_next_names {cs : List (Addr × Addr)} {xa : Option (Addr × Nat × Option Addr)} (z : Says bs fn K mg) : ∃ fd, FunD K "next_names" "next_names" (defArgs s_next_names) (defBody s_next_names) (defScope s_next_names) (d_next_names.dvs K) [] (d_next_names.ad K) fd ∧ FnG none P w K mg base 3 (d_next_names.ad K) fd ["day", "place"] (spD (GG cs xa K) 2 f_next_names) := by
  obtain ⟨fd_House_wave, F_House_wave, O_House_wave⟩ := ok_House_wave (P := P) (w := w) (base := base) (cs := cs) (xa := xa) (μ := none) z
  obtain ⟨fd, F⟩ := z.says.def_ 29 (d := d_next_names) rfl
  have sc := sc_next_names
  refine ⟨fd, F, fnG_ofF (fF := f_next_names) (body := b_next_names) F sc rfl nmL_nd (fun _ _ _ _ h => body_of h) fun calm pn cdv A outer s H E hcd W hr B => ?_⟩
  exact (s_cons (s_setLc W (B.calm rfl) (i := 2) sc.nd (own := [("name", 3)]) (i_seq W (x_fld W (wc z) 9 (x_var 0) rfl hx_9)) (blk_ok (by kernel_rfl)) (fun _ _ _ _ _ => (p_name (i := 3) sc.nd)) (gN_ok 3) (by decide) (fun _ _ _ _ _ => (pts_one (PW.pt (w_and (t_in (Wf.blk W) (x_fld (Wf.blk W) (wc z) 5 (x_var 1) rfl hx_5) (x_ix (Wf.blk W) (x_fld (Wf.blk W) (wc z) 9 (x_var 0) rfl hx_9) (x_var 3))) (w_and1 (t_notIn (Wf.blk W) (x_var 3) (x_fld (Wf.blk W) (wc z) 6 (x_var 1) rfl hx_6))))))) (fun _ _ _ _ _ => (x_var 3)))
    (s_one (s_ret (x_sl W (x_var 2) p_none (p_some (x_prop W (wc z) rfl (prop_ok (z.says.fact 79 rfl)) O_House_wave (hr.mono (by decide)) (bp_none F_House_wave 1 [] [0] fun _ _ _ _ _ _ us ws l1 l2 => match us, ws, l1, l2 with | [_], [], _, _ => rfl) (x_fld W (wc z) 8 (x_var 0) rfl hx_8)))))))
theorem sc_House_days : FnScope N_House_days ["self"] (defScope s_House_days) := ⟨rfl, rfl, rfl, by decide +kernel, rfl, by decide +kernel, by decide +kernel⟩
theorem ok_House_days {cs : List (Addr × Addr)} {xa : Option (Addr × Nat × Option Addr)} {μ : Mu} (z : Says bs fn K mg) : ∃ fd, FunD K "days" "House.days" (defArgs s_House_days) (defBody s_House_days) (defScope s_House_days) (d_House_days.dvs K) [] (d_House_days.ad K) fd ∧ FnG μ P w K mg base 1 (d_House_days.ad K) fd ["self"] (spD (GG cs xa K) 1 f_House_days) := by
  obtain ⟨fd, F⟩ := z.says.def_ 30 (d := d_House_days) rfl
  have sc := sc_House_days
  refine ⟨fd, F, fnG_ofF (fF := f_House_days) (body := b_House_days) F sc rfl nmL_nd (fun _ _ _ _ h => body_of h) fun calm pn cdv A outer s H E hcd W hr B => ?_⟩
  exact (s_one (s_ret (x_fld W (wc z) 1 (x_var 0) rfl hx_1)))
theorem sc_morning : FnScope N_morning ["day"] (defScope s_morning) := ⟨rfl, rfl, rfl, by decide +kernel, rfl, by decide +kernel, by decide +kernel⟩
theorem ok_morning {cs : List (Addr × Addr)} {xa : Option (Addr × Nat × Option Addr)} (z : Says bs fn K mg) : ∃ fd, FunD K "morning" "morning" (defArgs s_morning) (defBody s_morning) (defScope s_morning) (d_morning.dvs K) [] (d_morning.ad K) fd ∧ FnG none P w K mg base 4 (d_morning.ad K) fd ["day"] (spD (GG cs xa K) 1 f_morning) := by
  obtain ⟨fd_House_days, F_House_days, O_House_days⟩ := ok_House_days (P := P) (w := w) (base := base) (cs := cs) (xa := xa) (μ := none) z
  obtain ⟨fd_next_names, F_next_names, O_next_names⟩ := ok_next_names (P := P) (w := w) (base := base) (cs := cs) (xa := xa) z
  obtain ⟨fd, F⟩ := z.says.def_ 31 (d := d_morning) rfl
  have sc := sc_morning
  refine ⟨fd, F, fnG_ofF (fF := f_morning) (body := b_morning) F sc rfl nmL_nd (fun _ _ _ _ h => body_of h) fun calm pn cdv A outer s H E hcd W hr B => ?_⟩
  exact (s_cons (s_set (i := 1) sc.nd (x_cel a_nil))
    (s_cons (s_for W (B.calm rfl) B.own (i_seq W (x_fld W (wc z) 10 (x_var 0) rfl hx_10)) (p_name (i := 2) sc.nd) (gN_ok 2) (s_one (s_if (t_not (t_tru W (x_fld W (wc z) 7 (x_var 2) rfl hx_7))) (s_one (s_for W (B.calm rfl) B.own (i_seq W (x_fn W (z.glo 80) F_next_names.kp O_next_names (hr.mono (by decide)) (bp_none F_next_names 2 [] [0, 1] fun _ _ _ _ _ _ us ws l1 l2 => match us, ws, l1, l2 with | [_, _], [], _, _ => rfl) consts_nil B.ps (ca_pos (a_cons (x_var 0) (a_cons (x_var 2) a_nil))))) (p_name (i := 3) sc.nd) (gN_ok 3) (s_cons (s_expr (x_mt W PySem.F.plainAttrs_list PySem.F.slot_list_append PySem.F.type_list_append mt_append f_append (x_fld W (wc z) 6 (x_var 2) rfl hx_6) (a_cons (x_var 3) a_nil)))
    (s_cons (s_sub (x_sub (x_add W (x_fld W (wc z) 4 (x_var 0) rfl hx_4) (x_prop W (wc z) rfl (prop_ok (z.says.fact 81 rfl)) O_House_days (hr.mono (by decide)) (bp_none F_House_days 1 [] [0] fun _ _ _ _ _ _ us ws l1 l2 => match us, ws, l1, l2 with | [_], [], _, _ => rfl) (x_fld W (wc z) 8 (x_var 0) rfl hx_8))) x_int) (x_fld W (wc z) 7 (x_var 2) rfl hx_7) (x_var 3))
    (s_one (s_expr (x_mt W PySem.F.plainAttrs_list PySem.F.slot_list_append PySem.F.type_list_append mt_append f_append (x_var 1) (a_cons (x_tup (a_cons (x_var 3) (a_cons (x_fld W (wc z) 4 (x_var 2) rfl hx_4) a_nil))) a_nil)))))))) s_nil)))
    (s_one (s_ret (x_var 1)))))
theorem sc_Placezz_initzz : FnScope N_Placezz_initzz ["self", "number", "kind", "asked", "offers"] (defScope s_Placezz_initzz) := ⟨rfl, rfl, rfl, by decide +kernel, rfl, by decide +kernel, by decide +kernel⟩
theorem ok_Placezz_initzz {cs : List (Addr × Addr)} {xa : Option (Addr × Nat × Option Addr)} (z : Says bs fn K mg) : ∃ fd, FunD K "__init__" "Place.__init__" (defArgs s_Placezz_initzz) (defBody s_Placezz_initzz) (defScope s_Placezz_initzz) (d_Placezz_initzz.dvs K) [] (d_Placezz_initzz.ad K) fd ∧ FnG none P w K mg base 1 (d_Placezz_initzz.ad K) fd ["self", "number", "kind", "asked", "offers"] (spD (GG cs xa K) 5 f_Placezz_initzz) := by
  obtain ⟨fd, F⟩ := z.says.def_ 32 (d := d_Placezz_initzz) rfl
  have sc := sc_Placezz_initzz
  refine ⟨fd, F, fnG_ofF (fF := f_Placezz_initzz) (body := b_Placezz_initzz) F sc rfl nmL_nd (fun _ _ _ _ h => body_of h) fun calm pn cdv A outer s H E hcd W hr B => ?_⟩
  exact (s_cons (s_fld W (wc z) 4 (x_var 0) (x_var 1) rfl hx_4)
    (s_cons (s_fld W (wc z) 5 (x_var 0) (x_var 2) rfl hx_5)
    (s_cons (s_fld W (wc z) 6 (x_var 0) (x_ct call_list_of f_list (a_cons (x_var 3) a_nil) (z.free 82)) rfl hx_6)
    (s_one (s_fld W (wc z) 7 (x_var 0) (x_ct (call_dictW W (B.calm rfl)) f_dict (a_cons (x_var 4) a_nil) (z.free 83)) rfl hx_7)))))
theorem sc_Dayzz_initzz : FnScope N_Dayzz_initzz ["self", "house", "number", "entries", "places", "given"] (defScope s_Dayzz_initzz) := ⟨rfl, rfl, rfl, by decide +kernel, rfl, by decide +kernel, by decide +kernel⟩
theorem ok_Dayzz_initzz {cs : List (Addr × Addr)} {xa : Option (Addr × Nat × Option Addr)} (z : Says bs fn K mg) : ∃ fd, FunD K "__init__" "Day.__init__" (defArgs s_Dayzz_initzz) (defBody s_Dayzz_initzz) (defScope s_Dayzz_initzz) (d_Dayzz_initzz.dvs K) [] (d_Dayzz_initzz.ad K) fd ∧ FnG none P w K mg base 1 (d_Dayzz_initzz.ad K) fd ["self", "house", "number", "entries", "places", "given"] (spD (GG cs xa K) 6 f_Dayzz_initzz) := by
  obtain ⟨fd_Placezz_initzz, F_Placezz_initzz, O_Placezz_initzz⟩ := ok_Placezz_initzz (P := P) (w := w) (base := base) (cs := cs) (xa := xa) z
  obtain ⟨fd, F⟩ := z.says.def_ 33 (d := d_Dayzz_initzz) rfl
  have sc := sc_Dayzz_initzz
  refine ⟨fd, F, fnG_ofF (fF := f_Dayzz_initzz) (body := b_Dayzz_initzz) F sc rfl nmL_nd (fun _ _ _ _ h => body_of h) fun calm pn cdv A outer s H E hcd W hr B => ?_⟩
  exact (s_cons (s_fld W (wc z) 8 (x_var 0) (x_var 1) rfl hx_8)
    (s_cons (s_fld W (wc z) 4 (x_var 0) (x_var 2) rfl hx_4)
    (s_cons (s_fld W (wc z) 9 (x_var 0) (x_ct (call_dictW W (B.calm rfl)) f_dict (a_cons (x_var 3) a_nil) (z.free 83)) rfl hx_9)
    (s_cons (s_fld W (wc z) 10 (x_var 0) (x_lc W (B.calm rfl) sc.nd (own := [("place", 6)]) (i_seq W (x_var 4)) (blk_ok (by kernel_rfl)) (fun _ _ _ _ _ => (p_name (i := 6) sc.nd)) (gN_ok 6) (by decide) (fun _ _ _ _ _ => ts_nil) (fun _ _ _ _ _ => x_never)) rfl hx_10)
    (s_cons (s_fld W (wc z) 11 (x_var 0) (x_ct call_list_of f_list (a_cons (x_var 5) a_nil) (z.free 82)) rfl hx_11)
    (s_one (s_fld W (wc z) 12 (x_var 0) x_dct0 rfl hx_12)))))))
theorem sc_Waiting_places : FnScope N_Waiting_places ["self"] (defScope s_Waiting_places) := ⟨rfl, rfl, rfl, by decide +kernel, rfl, by decide +kernel, by decide +kernel⟩
theorem ok_Waiting_places {cs : List (Addr × Addr)} {xa : Option (Addr × Nat × Option Addr)} {μ : Mu} (z : Says bs fn K mg) : ∃ fd, FunD K "places" "Waiting.places" (defArgs s_Waiting_places) (defBody s_Waiting_places) (defScope s_Waiting_places) (d_Waiting_places.dvs K) [] (d_Waiting_places.ad K) fd ∧ FnG μ P w K mg base 1 (d_Waiting_places.ad K) fd ["self"] (spD (GG cs xa K) 1 f_Waiting_places) := by
  obtain ⟨fd, F⟩ := z.says.def_ 34 (d := d_Waiting_places) rfl
  have sc := sc_Waiting_places
  refine ⟨fd, F, fnG_ofF (fF := f_Waiting_places) (body := b_Waiting_places) F sc rfl nmL_nd (fun _ _ _ _ h => body_of h) fun calm pn cdv A outer s H E hcd W hr B => ?_⟩
  exact (s_one (s_ret (x_fld W (wc z) 15 (x_var 0) rfl hx_15)))
theorem sc_Waiting_entries : FnScope N_Waiting_entries ["self"] (defScope s_Waiting_entries) := ⟨rfl, rfl, rfl, by decide +kernel, rfl, by decide +kernel, by decide +kernel⟩
theorem ok_Waiting_entries {cs : List (Addr × Addr)} {xa : Option (Addr × Nat × Option Addr)} {μ : Mu} (z : Says bs fn K mg) : ∃ fd, FunD K "entries" "Waiting.entries" (defArgs s_Waiting_entries) (defBody s_Waiting_entries) (defScope s_Waiting_entries) (d_Waiting_entries.dvs K) [] (d_Waiting_entries.ad K) fd ∧ FnG μ P w K mg base 1 (d_Waiting_entries.ad K) fd ["self"] (spD (GG cs xa K) 1 f_Waiting_entries) := by
  obtain ⟨fd, F⟩ := z.says.def_ 35 (d := d_Waiting_entries) rfl
  have sc := sc_Waiting_entries
  refine ⟨fd, F, fnG_ofF (fF := f_Waiting_entries) (body := b_Waiting_entries) F sc rfl nmL_nd (fun _ _ _ _ h => body_of h) fun calm pn cdv A outer s H E hcd W hr B => ?_⟩
  exact (s_one (s_ret (x_fld W (wc z) 14 (x_var 0) rfl hx_14)))
theorem sc_Waiting_day : FnScope N_Waiting_day ["self"] (defScope s_Waiting_day) := ⟨rfl, rfl, rfl, by decide +kernel, rfl, by decide +kernel, by decide +kernel⟩
theorem ok_Waiting_day {cs : List (Addr × Addr)} {xa : Option (Addr × Nat × Option Addr)} {μ : Mu} (z : Says bs fn K mg) : ∃ fd, FunD K "day" "Waiting.day" (defArgs s_Waiting_day) (defBody s_Waiting_day) (defScope s_Waiting_day) (d_Waiting_day.dvs K) [] (d_Waiting_day.ad K) fd ∧ FnG μ P w K mg base 1 (d_Waiting_day.ad K) fd ["self"] (spD (GG cs xa K) 1 f_Waiting_day) := by
  obtain ⟨fd, F⟩ := z.says.def_ 36 (d := d_Waiting_day) rfl
  have sc := sc_Waiting_day
  refine ⟨fd, F, fnG_ofF (fF := f_Waiting_day) (body := b_Waiting_day) F sc rfl nmL_nd (fun _ _ _ _ h => body_of h) fun calm pn cdv A outer s H E hcd W hr B => ?_⟩
  exact (s_one (s_ret (x_fld W (wc z) 16 (x_var 0) rfl hx_16)))
theorem sc_day_of : FnScope N_day_of ["waiting"] (defScope s_day_of) := ⟨rfl, rfl, rfl, by decide +kernel, rfl, by decide +kernel, by decide +kernel⟩
theorem ok_day_of {cs : List (Addr × Addr)} {xa : Option (Addr × Nat × Option Addr)} (z : Says bs fn K mg) : ∃ fd, FunD K "day_of" "day_of" (defArgs s_day_of) (defBody s_day_of) (defScope s_day_of) (d_day_of.dvs K) [] (d_day_of.ad K) fd ∧ FnG none P w K mg base 3 (d_day_of.ad K) fd ["waiting"] (spD (GG cs xa K) 1 f_day_of) := by
  obtain ⟨fd_Dayzz_initzz, F_Dayzz_initzz, O_Dayzz_initzz⟩ := ok_Dayzz_initzz (P := P) (w := w) (base := base) (cs := cs) (xa := xa) z
  obtain ⟨fd_Waiting_day, F_Waiting_day, O_Waiting_day⟩ := ok_Waiting_day (P := P) (w := w) (base := base) (cs := cs) (xa := xa) (μ := none) z
  obtain ⟨fd_Waiting_entries, F_Waiting_entries, O_Waiting_entries⟩ := ok_Waiting_entries (P := P) (w := w) (base := base) (cs := cs) (xa := xa) (μ := none) z
  obtain ⟨fd_Waiting_house, F_Waiting_house, O_Waiting_house⟩ := ok_Waiting_house (P := P) (w := w) (base := base) (cs := cs) (xa := xa) (μ := none) z
  obtain ⟨fd_Waiting_places, F_Waiting_places, O_Waiting_places⟩ := ok_Waiting_places (P := P) (w := w) (base := base) (cs := cs) (xa := xa) (μ := none) z
  obtain ⟨fd, F⟩ := z.says.def_ 37 (d := d_day_of) rfl
  have sc := sc_day_of
  refine ⟨fd, F, fnG_ofF (fF := f_day_of) (body := b_day_of) F sc rfl nmL_nd (fun _ _ _ _ h => body_of h) fun calm pn cdv A outer s H E hcd W hr B => ?_⟩
  exact (s_one (s_ret (x_mk W rfl (z.glo 88) (He.mkr_ok (z.says.fact 87 rfl)) O_Dayzz_initzz (hr.mono (by decide)) (bp_none F_Dayzz_initzz 6 [] [0, 1, 2, 3, 4, 5] fun _ _ _ _ _ _ us ws l1 l2 => match us, ws, l1, l2 with | [_, _, _, _, _, _], [], _, _ => rfl) consts_nil B.ps (ca_pos (a_cons (x_prop W (wc z) rfl (prop_ok (z.says.fact 77 rfl)) O_Waiting_house (hr.mono (by decide)) (bp_none F_Waiting_house 1 [] [0] fun _ _ _ _ _ _ us ws l1 l2 => match us, ws, l1, l2 with | [_], [], _, _ => rfl) (x_var 0)) (a_cons (x_prop W (wc z) rfl (prop_ok (z.says.fact 86 rfl)) O_Waiting_day (hr.mono (by decide)) (bp_none F_Waiting_day 1 [] [0] fun _ _ _ _ _ _ us ws l1 l2 => match us, ws, l1, l2 with | [_], [], _, _ => rfl) (x_var 0)) (a_cons (x_prop W (wc z) rfl (prop_ok (z.says.fact 85 rfl)) O_Waiting_entries (hr.mono (by decide)) (bp_none F_Waiting_entries 1 [] [0] fun _ _ _ _ _ _ us ws l1 l2 => match us, ws, l1, l2 with | [_], [], _, _ => rfl) (x_var 0)) (a_cons (x_prop W (wc z) rfl (prop_ok (z.says.fact 84 rfl)) O_Waiting_places (hr.mono (by decide)) (bp_none F_Waiting_places 1 [] [0] fun _ _ _ _ _ _ us ws l1 l2 => match us, ws, l1, l2 with | [_], [], _, _ => rfl) (x_var 0)) (a_cons (x_fld W (wc z) 17 (x_var 0) rfl hx_17) a_nil)))))))))
theorem sc_Waiting_asked_next : FnScope N_Waiting_asked_next ["self"] (defScope s_Waiting_asked_next) := ⟨rfl, rfl, rfl, by decide +kernel, rfl, by decide +kernel, by decide +kernel⟩
theorem ok_Waiting_asked_next {cs : List (Addr × Addr)} {xa : Option (Addr × Nat × Option Addr)} (z : Says bs fn K mg) : ∃ fd, FunD K "asked_next" "Waiting.asked_next" (defArgs s_Waiting_asked_next) (defBody s_Waiting_asked_next) (defScope s_Waiting_asked_next) (d_Waiting_asked_next.dvs K) [] (d_Waiting_asked_next.ad K) fd ∧ FnG none P w K mg base 5 (d_Waiting_asked_next.ad K) fd ["self"] (spD (GG cs xa K) 1 f_Waiting_asked_next) := by
  obtain ⟨fd_day_of, F_day_of, O_day_of⟩ := ok_day_of (P := P) (w := w) (base := base) (cs := cs) (xa := xa) z
  obtain ⟨fd_morning, F_morning, O_morning⟩ := ok_morning (P := P) (w := w) (base := base) (cs := cs) (xa := xa) z
  obtain ⟨fd, F⟩ := z.says.def_ 38 (d := d_Waiting_asked_next) rfl
  have sc := sc_Waiting_asked_next
  refine ⟨fd, F, fnG_ofF (fF := f_Waiting_asked_next) (body := b_Waiting_asked_next) F sc rfl nmL_nd (fun _ _ _ _ h => body_of h) fun calm pn cdv A outer s H E hcd W hr B => ?_⟩
  exact (s_one (s_ret (x_ct call_tuple_ofP f_tuple (a_cons (x_fn W (z.glo 90) F_morning.kp O_morning (hr.mono (by decide)) (bp_none F_morning 1 [] [0] fun _ _ _ _ _ _ us ws l1 l2 => match us, ws, l1, l2 with | [_], [], _, _ => rfl) consts_nil B.ps (ca_pos (a_cons (x_fn W (z.glo 89) F_day_of.kp O_day_of (hr.mono (by decide)) (bp_none F_day_of 1 [] [0] fun _ _ _ _ _ _ us ws l1 l2 => match us, ws, l1, l2 with | [_], [], _, _ => rfl) consts_nil B.ps (ca_pos (a_cons (x_var 0) a_nil))) a_nil))) a_nil) (z.free 56))))
theorem sc__law_shown : FnScope N__law_shown ["_law_waiting"] (defScope s__law_shown) := ⟨rfl, rfl, rfl, by decide +kernel, rfl, by decide +kernel, by decide +kernel⟩
theorem ok__law_shown {cs : List (Addr × Addr)} {xa : Option (Addr × Nat × Option Addr)} (z : Says bs fn K mg) : ∃ fd, FunD K "_law_shown" "_law_shown" (defArgs s__law_shown) (defBody s__law_shown) (defScope s__law_shown) (d__law_shown.dvs K) [] (d__law_shown.ad K) fd ∧ FnG none P w K mg base 6 (d__law_shown.ad K) fd ["_law_waiting"] (spD (GG cs xa K) 1 f__law_shown) := by
  obtain ⟨fd_Waiting_asked_next, F_Waiting_asked_next, O_Waiting_asked_next⟩ := ok_Waiting_asked_next (P := P) (w := w) (base := base) (cs := cs) (xa := xa) z
  obtain ⟨fd_Waiting_day, F_Waiting_day, O_Waiting_day⟩ := ok_Waiting_day (P := P) (w := w) (base := base) (cs := cs) (xa := xa) (μ := none) z
  obtain ⟨fd_Waiting_entries, F_Waiting_entries, O_Waiting_entries⟩ := ok_Waiting_entries (P := P) (w := w) (base := base) (cs := cs) (xa := xa) (μ := none) z
  obtain ⟨fd_Waiting_places, F_Waiting_places, O_Waiting_places⟩ := ok_Waiting_places (P := P) (w := w) (base := base) (cs := cs) (xa := xa) (μ := none) z
  obtain ⟨fd, F⟩ := z.says.def_ 39 (d := d__law_shown) rfl
  have sc := sc__law_shown
  refine ⟨fd, F, fnG_ofF (fF := f__law_shown) (body := b__law_shown) F sc rfl nmL_nd (fun _ _ _ _ h => body_of h) fun calm pn cdv A outer s H E hcd W hr B => ?_⟩
  exact (s_one (s_ret (x_lst (a_cons (x_prop W (wc z) rfl (prop_ok (z.says.fact 85 rfl)) O_Waiting_entries (hr.mono (by decide)) (bp_none F_Waiting_entries 1 [] [0] fun _ _ _ _ _ _ us ws l1 l2 => match us, ws, l1, l2 with | [_], [], _, _ => rfl) (x_var 0)) (a_cons (x_prop W (wc z) rfl (prop_ok (z.says.fact 84 rfl)) O_Waiting_places (hr.mono (by decide)) (bp_none F_Waiting_places 1 [] [0] fun _ _ _ _ _ _ us ws l1 l2 => match us, ws, l1, l2 with | [_], [], _, _ => rfl) (x_var 0)) (a_cons (x_prop W (wc z) rfl (prop_ok (z.says.fact 86 rfl)) O_Waiting_day (hr.mono (by decide)) (bp_none F_Waiting_day 1 [] [0] fun _ _ _ _ _ _ us ws l1 l2 => match us, ws, l1, l2 with | [_], [], _, _ => rfl) (x_var 0)) (a_cons (x_fld W (wc z) 17 (x_var 0) rfl hx_17) (a_cons (x_meth (pl := _) W (wc z) rfl (x_var 0) (He.meth_ok (z.says.fact 91 rfl)) O_Waiting_asked_next (hr.mono (by decide)) (bp_none F_Waiting_asked_next 1 [] [0] fun _ _ _ _ _ _ us ws l1 l2 => match us, ws, l1, l2 with | [_], [], _, _ => rfl) consts_nil B.ps ca_nil (show ("asked_next" : Str) ∉ nmL by decide +kernel)) a_nil))))))))
theorem sc__law_lot : FnScope N__law_lot ["_law_purse_here", "_law_kinds"] (defScope s__law_lot) := ⟨rfl, rfl, rfl, by decide +kernel, rfl, by decide +kernel, by decide +kernel⟩
theorem ok__law_lot {cs : List (Addr × Addr)} {xa : Option (Addr × Nat × Option Addr)} (z : Says bs fn K mg) : ∃ fd, FunD K "_law_lot" "_law_lot" (defArgs s__law_lot) (defBody s__law_lot) (defScope s__law_lot) (d__law_lot.dvs K) [] (d__law_lot.ad K) fd ∧ FnG none P w K mg base 2 (d__law_lot.ad K) fd ["_law_purse_here", "_law_kinds"] (spD (GG cs xa K) 2 f__law_lot) := by
  obtain ⟨fd__law_pick, F__law_pick, O__law_pick⟩ := ok__law_pick (P := P) (w := w) (base := base) (cs := cs) (xa := xa) z
  obtain ⟨fd, F⟩ := z.says.def_ 40 (d := d__law_lot) rfl
  have sc := sc__law_lot
  refine ⟨fd, F, fnG_ofF (fF := f__law_lot) (body := b__law_lot) F sc rfl nmL_nd (fun _ _ _ _ h => body_of h) fun calm pn cdv A outer s H E hcd W hr B => ?_⟩
  exact (s_cons (s_setLc W (B.calm rfl) (i := 2) sc.nd (own := [("_law_kind", 3)]) (i_seq W (x_var 1)) (blk_ok (by kernel_rfl)) (fun _ _ _ _ _ => (p_name (i := 3) sc.nd)) (gN_ok 3) (by decide) (fun _ _ _ _ _ => (pts_one (t_eq (Wf.blk W) (x_fn (Wf.blk W) (z.glo 68) F__law_pick.kp O__law_pick ((Rm.blk hr).mono (by decide)) (bp_none F__law_pick 2 [] [0, 1] fun _ _ _ _ _ _ us ws l1 l2 => match us, ws, l1, l2 with | [_, _], [], _, _ => rfl) consts_nil passE0 (ca_pos (a_cons (x_var 0) (a_cons x_int a_nil)))) x_int))) (fun _ _ _ _ _ => (x_var 3)))
    (s_one (s_ret (x_if (t_ne W (x_var 2) (x_lst a_nil)) (x_ct call_tuple_ofP f_tuple (a_cons (x_cb (call_sorted W) f_sorted (a_cons (x_sl W (x_var 2) p_none (p_some x_int)) a_nil) (z.free 93)) a_nil) (z.free 56)) (x_tup (a_cons (x_ix W (x_var 1) (x_fn W (z.glo 68) F__law_pick.kp O__law_pick (hr.mono (by decide)) (bp_none F__law_pick 2 [] [0, 1] fun _ _ _ _ _ _ us ws l1 l2 => match us, ws, l1, l2 with | [_, _], [], _, _ => rfl) consts_nil B.ps (ca_pos (a_cons (x_var 0) (a_cons (x_cb call_len f_len (a_cons (x_var 1) a_nil) (z.free 3)) a_nil))))) a_nil))))))
theorem sc__law_people : FnScope N__law_people ["_law_purse_here", "_law_names_here", "_law_kinds"] (defScope s__law_people) := ⟨rfl, rfl, rfl, by decide +kernel, rfl, by decide +kernel, by decide +kernel⟩
theorem ok__law_people {cs : List (Addr × Addr)} {xa : Option (Addr × Nat × Option Addr)} (z : Says bs fn K mg) : ∃ fd, FunD K "_law_people" "_law_people" (defArgs s__law_people) (defBody s__law_people) (defScope s__law_people) (d__law_people.dvs K) [] (d__law_people.ad K) fd ∧ FnG none P w K mg base 3 (d__law_people.ad K) fd ["_law_purse_here", "_law_names_here", "_law_kinds"] (spD (GG cs xa K) 3 f__law_people) := by
  obtain ⟨fd__law_lot, F__law_lot, O__law_lot⟩ := ok__law_lot (P := P) (w := w) (base := base) (cs := cs) (xa := xa) z
  obtain ⟨fd, F⟩ := z.says.def_ 41 (d := d__law_people) rfl
  have sc := sc__law_people
  refine ⟨fd, F, fnG_ofF (fF := f__law_people) (body := b__law_people) F sc rfl nmL_nd (fun _ _ _ _ h => body_of h) fun calm pn cdv A outer s H E hcd W hr B => ?_⟩
  exact (s_one (s_ret (x_lc W (B.calm rfl) sc.nd (own := [("_law_who", 3)]) (i_seq W (x_var 1)) (blk_ok (by kernel_rfl)) (fun _ _ _ _ _ => (p_name (i := 3) sc.nd)) (gN_ok 3) (by decide) (fun _ _ _ _ _ => ts_nil) (fun _ _ _ _ _ => (x_tup (a_cons (x_var 3) (a_cons (x_fn (Wf.blk W) (z.glo 94) F__law_lot.kp O__law_lot ((Rm.blk hr).mono (by decide)) (bp_none F__law_lot 2 [] [0, 1] fun _ _ _ _ _ _ us ws l1 l2 => match us, ws, l1, l2 with | [_, _], [], _, _ => rfl) consts_nil passE0 (ca_pos (a_cons (x_var 0) (a_cons (x_var 2) a_nil)))) a_nil)))))))
theorem sc__law_word : FnScope N__law_word ["_law_purse_here"] (defScope s__law_word) := ⟨rfl, rfl, rfl, by decide +kernel, rfl, by decide +kernel, by decide +kernel⟩
theorem ok__law_word {cs : List (Addr × Addr)} {xa : Option (Addr × Nat × Option Addr)} (z : Says bs fn K mg) : ∃ fd, FunD K "_law_word" "_law_word" (defArgs s__law_word) (defBody s__law_word) (defScope s__law_word) (d__law_word.dvs K) [] (d__law_word.ad K) fd ∧ FnG none P w K mg base 2 (d__law_word.ad K) fd ["_law_purse_here"] (spD (GG cs xa K) 1 f__law_word) := by
  obtain ⟨fd__law_pick, F__law_pick, O__law_pick⟩ := ok__law_pick (P := P) (w := w) (base := base) (cs := cs) (xa := xa) z
  obtain ⟨fd, F⟩ := z.says.def_ 42 (d := d__law_word) rfl
  have sc := sc__law_word
  refine ⟨fd, F, fnG_ofF (fF := f__law_word) (body := b__law_word) F sc rfl nmL_nd (fun _ _ _ _ h => body_of h) fun calm pn cdv A outer s H E hcd W hr B => ?_⟩
  exact (s_cons (s_set (i := 1) sc.nd x_str)
    (s_cons (s_set (i := 2) sc.nd (x_add W (x_var 1) x_str))
    (s_cons (s_set (i := 3) sc.nd (x_ix W (x_var 1) (x_fn W (z.glo 68) F__law_pick.kp O__law_pick (hr.mono (by decide)) (bp_none F__law_pick 2 [] [0, 1] fun _ _ _ _ _ _ us ws l1 l2 => match us, ws, l1, l2 with | [_, _], [], _, _ => rfl) consts_nil B.ps (ca_pos (a_cons (x_var 0) (a_cons x_int a_nil))))))
    (s_cons (s_for W (B.calm rfl) B.own (i_range1 (a_cons (x_fn W (z.glo 68) F__law_pick.kp O__law_pick (hr.mono (by decide)) (bp_none F__law_pick 2 [] [0, 1] fun _ _ _ _ _ _ us ws l1 l2 => match us, ws, l1, l2 with | [_, _], [], _, _ => rfl) consts_nil B.ps (ca_pos (a_cons (x_var 0) (a_cons x_int a_nil)))) a_nil) (z.free 4)) (p_name (i := 4) sc.nd) (gN_ok 4) (s_one (s_set (i := 3) sc.nd (x_add W (x_var 3) (x_ix W (x_var 2) (x_fn W (z.glo 68) F__law_pick.kp O__law_pick (hr.mono (by decide)) (bp_none F__law_pick 2 [] [0, 1] fun _ _ _ _ _ _ us ws l1 l2 => match us, ws, l1, l2 with | [_, _], [], _, _ => rfl) consts_nil B.ps (ca_pos (a_cons (x_var 0) (a_cons x_int a_nil)))))))))
    (s_one (s_ret (x_var 3)))))))
theorem sc__law_names : FnScope N__law_names ["_law_purse_here", "_law_many"] (defScope s__law_names) := ⟨rfl, rfl, rfl, by decide +kernel, rfl, by decide +kernel, by decide +kernel⟩
theorem ok__law_names {cs : List (Addr × Addr)} {xa : Option (Addr × Nat × Option Addr)} (z : Says bs fn K mg) : ∃ fd, FunD K "_law_names" "_law_names" (defArgs s__law_names) (defBody s__law_names) (defScope s__law_names) (d__law_names.dvs K) [] (d__law_names.ad K) fd ∧ FnG none P w K mg base 5 (d__law_names.ad K) fd ["_law_purse_here", "_law_many"] (spD (GG cs xa K) 2 f__law_names) := by
  obtain ⟨fd__law_pick, F__law_pick, O__law_pick⟩ := ok__law_pick (P := P) (w := w) (base := base) (cs := cs) (xa := xa) z
  obtain ⟨fd__law_spare, F__law_spare, O__law_spare⟩ := ok__law_spare (P := P) (w := w) (base := base) (cs := cs) (xa := xa) z
  obtain ⟨fd__law_word, F__law_word, O__law_word⟩ := ok__law_word (P := P) (w := w) (base := base) (cs := cs) (xa := xa) z
  obtain ⟨fd, F⟩ := z.says.def_ 43 (d := d__law_names) rfl
  have sc := sc__law_names
  refine ⟨fd, F, fnG_ofF (fF := f__law_names) (body := b__law_names) F sc rfl nmL_nd (fun _ _ _ _ h => body_of h) fun calm pn cdv A outer s H E hcd W hr B => ?_⟩
  exact (s_cons (s_set (i := 2) sc.nd x_str)
    (s_cons (s_set (i := 3) sc.nd (x_mt W PySem.F.plainAttrs_str PySem.F.slot_str_split PySem.F.type_str_split mt_split f_split x_str (a_cons x_str a_nil)))
    (s_cons (s_par3 W (B.calm rfl) (i := 4) (j := 5) (l := 6) sc.nd (a_cons (x_fn W (z.glo 68) F__law_pick.kp O__law_pick (hr.mono (by decide)) (bp_none F__law_pick 2 [] [0, 1] fun _ _ _ _ _ _ us ws l1 l2 => match us, ws, l1, l2 with | [_, _], [], _, _ => rfl) consts_nil B.ps (ca_pos (a_cons (x_var 0) (a_cons x_int a_nil)))) (a_cons (x_fn W (z.glo 95) F__law_word.kp O__law_word (hr.mono (by decide)) (bp_none F__law_word 1 [] [0] fun _ _ _ _ _ _ us ws l1 l2 => match us, ws, l1, l2 with | [_], [], _, _ => rfl) consts_nil B.ps (ca_pos (a_cons (x_var 0) a_nil))) (a_cons (x_cel a_nil) a_nil))))
    (s_cons (s_for W (B.calm rfl) B.own (i_range1 (a_cons (x_var 1) a_nil) (z.free 4)) (p_name (i := 7) sc.nd) (gN_ok 7) (s_cons (s_set (i := 8) sc.nd (x_if (t_eq W (x_var 4) x_int) (x_fn W (z.glo 95) F__law_word.kp O__law_word (hr.mono (by decide)) (bp_none F__law_word 1 [] [0] fun _ _ _ _ _ _ us ws l1 l2 => match us, ws, l1, l2 with | [_], [], _, _ => rfl) consts_nil B.ps (ca_pos (a_cons (x_var 0) a_nil))) (x_ix W (x_var 3) (x_fn W (z.glo 68) F__law_pick.kp O__law_pick (hr.mono (by decide)) (bp_none F__law_pick 2 [] [0, 1] fun _ _ _ _ _ _ us ws l1 l2 => match us, ws, l1, l2 with | [_, _], [], _, _ => rfl) consts_nil B.ps (ca_pos (a_cons (x_var 0) (a_cons x_int a_nil)))))))
    (s_cons (s_if (t_eq W (x_var 4) x_int) (s_cons (s_set (i := 9) sc.nd (x_fn W (z.glo 68) F__law_pick.kp O__law_pick (hr.mono (by decide)) (bp_none F__law_pick 2 [] [0, 1] fun _ _ _ _ _ _ us ws l1 l2 => match us, ws, l1, l2 with | [_, _], [], _, _ => rfl) consts_nil B.ps (ca_pos (a_cons (x_var 0) (a_cons (x_cb call_len f_len (a_cons (x_var 5) a_nil) (z.free 3)) a_nil)))))
    (s_one (s_set (i := 8) sc.nd (x_add W (x_add W (x_sl W (x_var 5) p_none (p_some (x_var 9))) (x_ix W (x_var 2) (x_fn W (z.glo 68) F__law_pick.kp O__law_pick (hr.mono (by decide)) (bp_none F__law_pick 2 [] [0, 1] fun _ _ _ _ _ _ us ws l1 l2 => match us, ws, l1, l2 with | [_, _], [], _, _ => rfl) consts_nil B.ps (ca_pos (a_cons (x_var 0) (a_cons x_int a_nil)))))) (x_sl W (x_var 5) (p_some (x_add W (x_var 9) x_int)) p_none))))) s_nil)
    (s_one (s_expr (x_mt W PySem.F.plainAttrs_list PySem.F.slot_list_append PySem.F.type_list_append mt_append f_append (x_var 6) (a_cons (x_if (t_notIn W (x_var 8) (x_var 6)) (x_var 8) (x_fn W (z.glo 70) F__law_spare.kp O__law_spare (hr.mono (by decide)) (bp_none F__law_spare 1 [] [0] fun _ _ _ _ _ _ us ws l1 l2 => match us, ws, l1, l2 with | [_], [], _, _ => rfl) consts_nil B.ps (ca_pos (a_cons (x_var 6) a_nil)))) a_nil)))))))
    (s_one (s_ret (x_var 6)))))))
theorem sc__law_rules : FnScope N__law_rules ["_law_purse_here", "_law_most"] (defScope s__law_rules) := ⟨rfl, rfl, rfl, by decide +kernel, rfl, by decide +kernel, by decide +kernel⟩
theorem ok__law_rules {cs : List (Addr × Addr)} {xa : Option (Addr × Nat × Option Addr)} (z : Says bs fn K mg) : ∃ fd, FunD K "_law_rules" "_law_rules" (defArgs s__law_rules) (defBody s__law_rules) (defScope s__law_rules) (d__law_rules.dvs K) [] (d__law_rules.ad K) fd ∧ FnG none P w K mg base 2 (d__law_rules.ad K) fd ["_law_purse_here", "_law_most"] (spD (GG cs xa K) 2 f__law_rules) := by
  obtain ⟨fd__law_pick, F__law_pick, O__law_pick⟩ := ok__law_pick (P := P) (w := w) (base := base) (cs := cs) (xa := xa) z
  obtain ⟨fd, F⟩ := z.says.def_ 44 (d := d__law_rules) rfl
  have sc := sc__law_rules
  refine ⟨fd, F, fnG_ofF (fF := f__law_rules) (body := b__law_rules) F sc rfl nmL_nd (fun _ _ _ _ h => body_of h) fun calm pn cdv A outer s H E hcd W hr B => ?_⟩
  exact (s_cons (s_set (i := 2) sc.nd (x_lst (a_cons x_str (a_cons x_str (a_cons x_str a_nil)))))
    (s_cons (s_set (i := 3) sc.nd (x_cel (a_cons (x_add W x_int (x_fn W (z.glo 68) F__law_pick.kp O__law_pick (hr.mono (by decide)) (bp_none F__law_pick 2 [] [0, 1] fun _ _ _ _ _ _ us ws l1 l2 => match us, ws, l1, l2 with | [_, _], [], _, _ => rfl) consts_nil B.ps (ca_pos (a_cons (x_var 0) (a_cons x_int a_nil))))) (a_cons (x_add W x_int (x_fn W (z.glo 68) F__law_pick.kp O__law_pick (hr.mono (by decide)) (bp_none F__law_pick 2 [] [0, 1] fun _ _ _ _ _ _ us ws l1 l2 => match us, ws, l1, l2 with | [_, _], [], _, _ => rfl) consts_nil B.ps (ca_pos (a_cons (x_var 0) (a_cons (x_var 1) a_nil))))) a_nil))))
    (s_cons (s_expr (x_mt W PySem.F.plainAttrs_list PySem.F.slot_list_append PySem.F.type_list_append mt_append f_append (x_var 3) (a_cons (x_ix W (x_var 2) (x_fn W (z.glo 68) F__law_pick.kp O__law_pick (hr.mono (by decide)) (bp_none F__law_pick 2 [] [0, 1] fun _ _ _ _ _ _ us ws l1 l2 => match us, ws, l1, l2 with | [_, _], [], _, _ => rfl) consts_nil B.ps (ca_pos (a_cons (x_var 0) (a_cons x_int a_nil))))) a_nil)))
    (s_one (s_ret (x_tup (a_cons (x_ix W (x_var 3) x_int) (a_cons (x_ix W (x_var 3) x_int) (a_cons (x_ix W (x_var 3) x_int) (a_cons (x_ix W (x_var 2) (x_fn W (z.glo 68) F__law_pick.kp O__law_pick (hr.mono (by decide)) (bp_none F__law_pick 2 [] [0, 1] fun _ _ _ _ _ _ us ws l1 l2 => match us, ws, l1, l2 with | [_, _], [], _, _ => rfl) consts_nil B.ps (ca_pos (a_cons (x_var 0) (a_cons x_int a_nil))))) a_nil))))))))))
theorem sc__law_right : FnScope N__law_right ["_law_purse_here"] (defScope s__law_right) := ⟨rfl, rfl, rfl, by decide +kernel, rfl, by decide +kernel, by decide +kernel⟩
theorem ok__law_right {cs : List (Addr × Addr)} {xa : Option (Addr × Nat × Option Addr)} (z : Says bs fn K mg) : ∃ fd, FunD K "_law_right" "_law_right" (defArgs s__law_right) (defBody s__law_right) (defScope s__law_right) (d__law_right.dvs K) [] (d__law_right.ad K) fd ∧ FnG none P w K mg base 7 (d__law_right.ad K) fd ["_law_purse_here"] (spD (GG cs xa K) 1 f__law_right) := by
  obtain ⟨fd_Housezz_eqzz, F_Housezz_eqzz, O_Housezz_eqzz⟩ := ok_Housezz_eqzz (P := P) (w := w) (base := base) (cs := cs) (xa := xa) (μ := none) z
  obtain ⟨fd_Housezz_reprzz, F_Housezz_reprzz, O_Housezz_reprzz⟩ := ok_Housezz_reprzz (P := P) (w := w) (base := base) (cs := cs) (xa := xa) (μ := none) z
  obtain ⟨fd_Housezz_strzz, F_Housezz_strzz, O_Housezz_strzz⟩ := ok_Housezz_strzz (P := P) (w := w) (base := base) (cs := cs) (xa := xa) (μ := none) z
  obtain ⟨fd_Waitingzz_eqzz, F_Waitingzz_eqzz, O_Waitingzz_eqzz⟩ := ok_Waitingzz_eqzz (P := P) (w := w) (base := base) (cs := cs) (xa := xa) (μ := none) z
  obtain ⟨fd_Waitingzz_initzz, F_Waitingzz_initzz, O_Waitingzz_initzz⟩ := ok_Waitingzz_initzz (P := P) (w := w) (base := base) (cs := cs) (xa := xa) z
  obtain ⟨fd_Waitingzz_reprzz, F_Waitingzz_reprzz, O_Waitingzz_reprzz⟩ := ok_Waitingzz_reprzz (P := P) (w := w) (base := base) (cs := cs) (xa := xa) (μ := none) z
  obtain ⟨fd_Waiting_house, F_Waiting_house, O_Waiting_house⟩ := ok_Waiting_house (P := P) (w := w) (base := base) (cs := cs) (xa := xa) (μ := none) z
  obtain ⟨fd_Waiting_led, F_Waiting_led, O_Waiting_led⟩ := ok_Waiting_led (P := P) (w := w) (base := base) (cs := cs) (xa := xa) z
  obtain ⟨fd__law_house, F__law_house, O__law_house⟩ := ok__law_house (P := P) (w := w) (base := base) (cs := cs) (xa := xa) z
  obtain ⟨fd__law_house_text, F__law_house_text, O__law_house_text⟩ := ok__law_house_text (P := P) (w := w) (base := base) (cs := cs) (xa := xa) (μ := none) z
  obtain ⟨fd__law_names, F__law_names, O__law_names⟩ := ok__law_names (P := P) (w := w) (base := base) (cs := cs) (xa := xa) z
  obtain ⟨fd__law_near_lists, F__law_near_lists, O__law_near_lists⟩ := ok__law_near_lists (P := P) (w := w) (base := base) (cs := cs) (xa := xa) z
  obtain ⟨fd__law_people, F__law_people, O__law_people⟩ := ok__law_people (P := P) (w := w) (base := base) (cs := cs) (xa := xa) z
  obtain ⟨fd__law_pick, F__law_pick, O__law_pick⟩ := ok__law_pick (P := P) (w := w) (base := base) (cs := cs) (xa := xa) z
  obtain ⟨fd__law_rules, F__law_rules, O__law_rules⟩ := ok__law_rules (P := P) (w := w) (base := base) (cs := cs) (xa := xa) z
  obtain ⟨fd__law_shown, F__law_shown, O__law_shown⟩ := ok__law_shown (P := P) (w := w) (base := base) (cs := cs) (xa := xa) z
  obtain ⟨fd, F⟩ := z.says.def_ 45 (d := d__law_right) rfl
  have sc := sc__law_right
  refine ⟨fd, F, fnG_ofF (fF := f__law_right) (body := b__law_right) F sc rfl nmL_nd (fun _ _ _ _ h => body_of h) fun calm pn cdv A outer s H E hcd W hr B => ?_⟩
  exact (s_cons (s_par W (B.calm rfl) (i := 1) (j := 2) sc.nd (a_cons (x_fn W (z.glo 98) F__law_rules.kp O__law_rules (hr.mono (by decide)) (bp_none F__law_rules 2 [] [0, 1] fun _ _ _ _ _ _ us ws l1 l2 => match us, ws, l1, l2 with | [_, _], [], _, _ => rfl) consts_nil B.ps (ca_pos (a_cons (x_var 0) (a_cons x_int a_nil)))) (a_cons (x_ix W (x_lst (a_cons (x_fn W (z.glo 68) F__law_pick.kp O__law_pick (hr.mono (by decide)) (bp_none F__law_pick 2 [] [0, 1] fun _ _ _ _ _ _ us ws l1 l2 => match us, ws, l1, l2 with | [_, _], [], _, _ => rfl) consts_nil B.ps (ca_pos (a_cons (x_var 0) (a_cons x_int a_nil)))) (a_cons (x_fn W (z.glo 68) F__law_pick.kp O__law_pick (hr.mono (by decide)) (bp_none F__law_pick 2 [] [0, 1] fun _ _ _ _ _ _ us ws l1 l2 => match us, ws, l1, l2 with | [_, _], [], _, _ => rfl) consts_nil B.ps (ca_pos (a_cons (x_var 0) (a_cons x_int a_nil)))) a_nil))) (x_fn W (z.glo 68) F__law_pick.kp O__law_pick (hr.mono (by decide)) (bp_none F__law_pick 2 [] [0, 1] fun _ _ _ _ _ _ us ws l1 l2 => match us, ws, l1, l2 with | [_, _], [], _, _ => rfl) consts_nil B.ps (ca_pos (a_cons (x_var 0) (a_cons x_int a_nil))))) a_nil)))
    (s_cons (s_set (i := 3) sc.nd (x_fn W (z.glo 96) F__law_names.kp O__law_names (hr.mono (by decide)) (bp_none F__law_names 2 [] [0, 1] fun _ _ _ _ _ _ us ws l1 l2 => match us, ws, l1, l2 with | [_, _], [], _, _ => rfl) consts_nil B.ps (ca_pos (a_cons (x_var 0) (a_cons (x_add W x_int (x_fn W (z.glo 68) F__law_pick.kp O__law_pick (hr.mono (by decide)) (bp_none F__law_pick 2 [] [0, 1] fun _ _ _ _ _ _ us ws l1 l2 => match us, ws, l1, l2 with | [_, _], [], _, _ => rfl) consts_nil B.ps (ca_pos (a_cons (x_var 0) (a_cons x_int a_nil))))) a_nil)))))
    (s_cons (s_set (i := 4) sc.nd (x_ct call_tuple_ofP f_tuple (a_cons (x_fn W (z.glo 97) F__law_people.kp O__law_people (hr.mono (by decide)) (bp_none F__law_people 3 [] [0, 1, 2] fun _ _ _ _ _ _ us ws l1 l2 => match us, ws, l1, l2 with | [_, _, _], [], _, _ => rfl) consts_nil B.ps (ca_pos (a_cons (x_var 0) (a_cons (x_fn W (z.glo 96) F__law_names.kp O__law_names (hr.mono (by decide)) (bp_none F__law_names 2 [] [0, 1] fun _ _ _ _ _ _ us ws l1 l2 => match us, ws, l1, l2 with | [_, _], [], _, _ => rfl) consts_nil B.ps (ca_pos (a_cons (x_var 0) (a_cons (x_var 2) a_nil)))) (a_cons (x_var 3) a_nil))))) a_nil) (z.free 56)))
    (s_cons (s_asg (x_tup (a_cons (x_mk W rfl (z.glo 11) (He.mkr_ok (z.says.fact 66 rfl)) O_Waitingzz_initzz (hr.mono (by decide)) (bp_none F_Waitingzz_initzz 3 [] [0, 1, 2] fun _ _ _ _ _ _ us ws l1 l2 => match us, ws, l1, l2 with | [_, _, _], [], _, _ => rfl) consts_nil B.ps (ca_pos (a_cons (x_fn W (z.glo 41) F__law_house.kp O__law_house (hr.mono (by decide)) (bp_none F__law_house 1 [] [0] fun _ _ _ _ _ _ us ws l1 l2 => match us, ws, l1, l2 with | [_], [], _, _ => rfl) consts_nil B.ps (ca_pos (a_cons (x_var 1) a_nil))) (a_cons (x_var 4) a_nil)))) (a_cons (x_mk W rfl (z.glo 11) (He.mkr_ok (z.says.fact 66 rfl)) O_Waitingzz_initzz (hr.mono (by decide)) (bp_none F_Waitingzz_initzz 1 ["entries", "house"] [0, 2, 1] fun _ _ _ _ _ _ us ws l1 l2 => match us, ws, l1, l2 with | [_], [_, _], _, _ => rfl) consts_nil B.ps (ca_kw (k_cons (x_var 4) (k_cons (x_fn W (z.glo 41) F__law_house.kp O__law_house (hr.mono (by decide)) (bp_none F__law_house 1 [] [0] fun _ _ _ _ _ _ us ws l1 l2 => match us, ws, l1, l2 with | [_], [], _, _ => rfl) consts_nil B.ps (ca_pos (a_cons (x_var 1) a_nil))) k_nil)))) a_nil))) (p_tup W (B.calm rfl) (pgs_cons (p_name (i := 5) sc.nd) (pgs_cons (p_name (i := 6) sc.nd) pgs_nil))) (gTu_ok (gCn_ok (gN_ok 5) (gCn_ok (gN_ok 6) gNl_ok))))
    (s_cons (s_for W (B.calm rfl) B.own (i_seq W (x_lst (a_cons (x_var 5) (a_cons (x_var 6) (a_cons (x_meth (pl := _) W (wc z) rfl (x_var 5) (He.meth_ok (z.says.fact 76 rfl)) O_Waiting_led (hr.mono (by decide)) (bp_none F_Waiting_led 2 [] [0, 1] fun _ _ _ _ _ _ us ws l1 l2 => match us, ws, l1, l2 with | [_, _], [], _, _ => rfl) consts_nil B.ps (ca_pos (a_cons (x_tup a_nil) a_nil)) (show ("led" : Str) ∉ nmL by decide +kernel)) (a_cons (x_meth (pl := _) W (wc z) rfl (x_var 6) (He.meth_ok (z.says.fact 76 rfl)) O_Waiting_led (hr.mono (by decide)) (bp_none F_Waiting_led 1 ["days"] [0, 1] fun _ _ _ _ _ _ us ws l1 l2 => match us, ws, l1, l2 with | [_], [_], _, _ => rfl) consts_nil B.ps (ca_kw (k_cons (x_tup a_nil) k_nil)) (show ("led" : Str) ∉ nmL by decide +kernel)) a_nil)))))) (p_name (i := 7) sc.nd) (gN_ok 7) (s_cons (s_if (PW.pt (w_or (t_not (t_tru W (x_isiO W (wi z) (x_var 7) (isi_ok (gg := GG [] none) (u := fun K => .ref (He.ga K "Waiting")) (z.says.fact 10 rfl)) (z.free 5) (z.glo 11)))) (w_or1 (t_ne W (x_reprO (k := 1) W (duns_cons ⟨⟨He.ga K "House", _, _, _, rfl, (spec_ok (z.says.fact 44 rfl)).1, (spec_ok (z.says.fact 44 rfl)).2, O_Housezz_reprzz.mono (by decide), (bp_none F_Housezz_reprzz 1 [] [0] fun _ _ _ _ _ _ us ws l1 l2 => match us, ws, l1, l2 with | [_], [], _, _ => rfl)⟩⟩ (duns_cons ⟨⟨He.ga K "Waiting", _, _, _, rfl, (spec_ok (z.says.fact 43 rfl)).1, (spec_ok (z.says.fact 43 rfl)).2, O_Waitingzz_reprzz.mono (by decide), (bp_none F_Waitingzz_reprzz 1 [] [0] fun _ _ _ _ _ _ us ws l1 l2 => match us, ws, l1, l2 with | [_], [], _, _ => rfl)⟩⟩ duns_nil)) (hr.mono (by decide)) B.ps (x_fn W (z.glo 92) F__law_shown.kp O__law_shown (hr.mono (by decide)) (bp_none F__law_shown 1 [] [0] fun _ _ _ _ _ _ us ws l1 l2 => match us, ws, l1, l2 with | [_], [], _, _ => rfl) consts_nil B.ps (ca_pos (a_cons (x_var 7) a_nil))) (z.free 42)) (x_reprO (k := 1) W (duns_cons ⟨⟨He.ga K "House", _, _, _, rfl, (spec_ok (z.says.fact 44 rfl)).1, (spec_ok (z.says.fact 44 rfl)).2, O_Housezz_reprzz.mono (by decide), (bp_none F_Housezz_reprzz 1 [] [0] fun _ _ _ _ _ _ us ws l1 l2 => match us, ws, l1, l2 with | [_], [], _, _ => rfl)⟩⟩ (duns_cons ⟨⟨He.ga K "Waiting", _, _, _, rfl, (spec_ok (z.says.fact 43 rfl)).1, (spec_ok (z.says.fact 43 rfl)).2, O_Waitingzz_reprzz.mono (by decide), (bp_none F_Waitingzz_reprzz 1 [] [0] fun _ _ _ _ _ _ us ws l1 l2 => match us, ws, l1, l2 with | [_], [], _, _ => rfl)⟩⟩ duns_nil)) (hr.mono (by decide)) B.ps (x_lst (a_cons (x_var 4) (a_cons (x_tup a_nil) (a_cons x_int (a_cons (x_tup a_nil) (a_cons (x_tup a_nil) a_nil)))))) (z.free 42)))))) (s_one (s_ret x_bl)) s_nil)
    (s_cons (s_if (PW.pt (w_or (t_not (t_tru W (x_isiO W (wi z) (x_prop W (wc z) rfl (prop_ok (z.says.fact 77 rfl)) O_Waiting_house (hr.mono (by decide)) (bp_none F_Waiting_house 1 [] [0] fun _ _ _ _ _ _ us ws l1 l2 => match us, ws, l1, l2 with | [_], [], _, _ => rfl) (x_var 7)) (isi_ok (gg := GG [] none) (u := fun K => .ref (He.ga K "House")) (z.says.fact 6 rfl)) (z.free 5) (z.glo 7)))) (w_or1 (t_ne W (x_strO (k := 1) W (duns_cons ⟨⟨He.ga K "House", _, _, _, rfl, (spec_ok (z.says.fact 69 rfl)).1, (spec_ok (z.says.fact 69 rfl)).2, O_Housezz_strzz.mono (by decide), (bp_none F_Housezz_strzz 1 [] [0] fun _ _ _ _ _ _ us ws l1 l2 => match us, ws, l1, l2 with | [_], [], _, _ => rfl)⟩⟩ duns_nil) (hr.mono (by decide)) B.ps (x_prop W (wc z) rfl (prop_ok (z.says.fact 77 rfl)) O_Waiting_house (hr.mono (by decide)) (bp_none F_Waiting_house 1 [] [0] fun _ _ _ _ _ _ us ws l1 l2 => match us, ws, l1, l2 with | [_], [], _, _ => rfl) (x_var 7)) (z.free 18)) (x_fn W (z.glo 78) F__law_house_text.kp O__law_house_text (hr.mono (by decide)) (bp_none F__law_house_text 1 [] [0] fun _ _ _ _ _ _ us ws l1 l2 => match us, ws, l1, l2 with | [_], [], _, _ => rfl) consts_nil B.ps (ca_pos (a_cons (x_var 1) a_nil))))))) (s_one (s_ret x_bl)) s_nil)
    (s_one (s_if (PW.pt (w_or (t_ne W (x_reprO (k := 1) W (duns_cons ⟨⟨He.ga K "House", _, _, _, rfl, (spec_ok (z.says.fact 44 rfl)).1, (spec_ok (z.says.fact 44 rfl)).2, O_Housezz_reprzz.mono (by decide), (bp_none F_Housezz_reprzz 1 [] [0] fun _ _ _ _ _ _ us ws l1 l2 => match us, ws, l1, l2 with | [_], [], _, _ => rfl)⟩⟩ (duns_cons ⟨⟨He.ga K "Waiting", _, _, _, rfl, (spec_ok (z.says.fact 43 rfl)).1, (spec_ok (z.says.fact 43 rfl)).2, O_Waitingzz_reprzz.mono (by decide), (bp_none F_Waitingzz_reprzz 1 [] [0] fun _ _ _ _ _ _ us ws l1 l2 => match us, ws, l1, l2 with | [_], [], _, _ => rfl)⟩⟩ duns_nil)) (hr.mono (by decide)) B.ps (x_var 7) (z.free 42)) (x_add W (x_add W x_str (x_strO (k := 1) W (duns_cons ⟨⟨He.ga K "House", _, _, _, rfl, (spec_ok (z.says.fact 69 rfl)).1, (spec_ok (z.says.fact 69 rfl)).2, O_Housezz_strzz.mono (by decide), (bp_none F_Housezz_strzz 1 [] [0] fun _ _ _ _ _ _ us ws l1 l2 => match us, ws, l1, l2 with | [_], [], _, _ => rfl)⟩⟩ duns_nil) (hr.mono (by decide)) B.ps (x_var 2) (z.free 18))) x_str)) (w_or (t_not (t_cmpR (x_var 7) (x_var 5) (op_eqO W (wi z) (k := 2) (dunqs_cons ⟨⟨He.ga K "House", _, _, _, rfl, (spec_ok (z.says.fact 8 rfl)).1, (spec_ok (z.says.fact 8 rfl)).2, O_Housezz_eqzz.mono (by decide), (bp_none F_Housezz_eqzz 2 [] [0, 1] fun _ _ _ _ _ _ us ws l1 l2 => match us, ws, l1, l2 with | [_, _], [], _, _ => rfl), (eq_ok (z.says.fact 9 rfl))⟩⟩ (dunqs_cons ⟨⟨He.ga K "Waiting", _, _, _, rfl, (spec_ok (z.says.fact 12 rfl)).1, (spec_ok (z.says.fact 12 rfl)).2, O_Waitingzz_eqzz.mono (by decide), (bp_none F_Waitingzz_eqzz 2 [] [0, 1] fun _ _ _ _ _ _ us ws l1 l2 => match us, ws, l1, l2 with | [_, _], [], _, _ => rfl), (eq_ok (z.says.fact 13 rfl))⟩⟩ dunqs_nil)) (hr.mono (by decide)) B.ps))) (w_or1 (t_cmpR (x_var 7) (x_var 6) (op_neO W (wi z) (k := 2) (dunqs_cons ⟨⟨He.ga K "House", _, _, _, rfl, (spec_ok (z.says.fact 8 rfl)).1, (spec_ok (z.says.fact 8 rfl)).2, O_Housezz_eqzz.mono (by decide), (bp_none F_Housezz_eqzz 2 [] [0, 1] fun _ _ _ _ _ _ us ws l1 l2 => match us, ws, l1, l2 with | [_, _], [], _, _ => rfl), (eq_ok (z.says.fact 9 rfl))⟩⟩ (dunqs_cons ⟨⟨He.ga K "Waiting", _, _, _, rfl, (spec_ok (z.says.fact 12 rfl)).1, (spec_ok (z.says.fact 12 rfl)).2, O_Waitingzz_eqzz.mono (by decide), (bp_none F_Waitingzz_eqzz 2 [] [0, 1] fun _ _ _ _ _ _ us ws l1 l2 => match us, ws, l1, l2 with | [_, _], [], _, _ => rfl), (eq_ok (z.says.fact 13 rfl))⟩⟩ dunqs_nil)) (hr.mono (by decide)) B.ps)))))) (s_one (s_ret x_bl)) s_nil)))))
    (s_cons (s_for W (B.calm rfl) B.own (i_seq W (x_fn W (z.glo 71) F__law_near_lists.kp O__law_near_lists (hr.mono (by decide)) (bp_none F__law_near_lists 3 [] [0, 1, 2] fun _ _ _ _ _ _ us ws l1 l2 => match us, ws, l1, l2 with | [_, _, _], [], _, _ => rfl) consts_nil B.ps (ca_pos (a_cons (x_var 0) (a_cons (x_var 1) (a_cons (x_var 4) a_nil)))))) (p_name (i := 8) sc.nd) (gN_ok 8) (s_one (s_if (PW.pt (w_or (t_cmpR (x_var 5) (x_var 8) (op_eqO W (wi z) (k := 2) (dunqs_cons ⟨⟨He.ga K "House", _, _, _, rfl, (spec_ok (z.says.fact 8 rfl)).1, (spec_ok (z.says.fact 8 rfl)).2, O_Housezz_eqzz.mono (by decide), (bp_none F_Housezz_eqzz 2 [] [0, 1] fun _ _ _ _ _ _ us ws l1 l2 => match us, ws, l1, l2 with | [_, _], [], _, _ => rfl), (eq_ok (z.says.fact 9 rfl))⟩⟩ (dunqs_cons ⟨⟨He.ga K "Waiting", _, _, _, rfl, (spec_ok (z.says.fact 12 rfl)).1, (spec_ok (z.says.fact 12 rfl)).2, O_Waitingzz_eqzz.mono (by decide), (bp_none F_Waitingzz_eqzz 2 [] [0, 1] fun _ _ _ _ _ _ us ws l1 l2 => match us, ws, l1, l2 with | [_, _], [], _, _ => rfl), (eq_ok (z.says.fact 13 rfl))⟩⟩ dunqs_nil)) (hr.mono (by decide)) B.ps)) (w_or (t_cmpR (x_var 8) (x_var 5) (op_eqO W (wi z) (k := 2) (dunqs_cons ⟨⟨He.ga K "House", _, _, _, rfl, (spec_ok (z.says.fact 8 rfl)).1, (spec_ok (z.says.fact 8 rfl)).2, O_Housezz_eqzz.mono (by decide), (bp_none F_Housezz_eqzz 2 [] [0, 1] fun _ _ _ _ _ _ us ws l1 l2 => match us, ws, l1, l2 with | [_, _], [], _, _ => rfl), (eq_ok (z.says.fact 9 rfl))⟩⟩ (dunqs_cons ⟨⟨He.ga K "Waiting", _, _, _, rfl, (spec_ok (z.says.fact 12 rfl)).1, (spec_ok (z.says.fact 12 rfl)).2, O_Waitingzz_eqzz.mono (by decide), (bp_none F_Waitingzz_eqzz 2 [] [0, 1] fun _ _ _ _ _ _ us ws l1 l2 => match us, ws, l1, l2 with | [_, _], [], _, _ => rfl), (eq_ok (z.says.fact 13 rfl))⟩⟩ dunqs_nil)) (hr.mono (by decide)) B.ps)) (w_or1 (t_not (t_cmpR (x_var 5) (x_var 8) (op_neO W (wi z) (k := 2) (dunqs_cons ⟨⟨He.ga K "House", _, _, _, rfl, (spec_ok (z.says.fact 8 rfl)).1, (spec_ok (z.says.fact 8 rfl)).2, O_Housezz_eqzz.mono (by decide), (bp_none F_Housezz_eqzz 2 [] [0, 1] fun _ _ _ _ _ _ us ws l1 l2 => match us, ws, l1, l2 with | [_, _], [], _, _ => rfl), (eq_ok (z.says.fact 9 rfl))⟩⟩ (dunqs_cons ⟨⟨He.ga K "Waiting", _, _, _, rfl, (spec_ok (z.says.fact 12 rfl)).1, (spec_ok (z.says.fact 12 rfl)).2, O_Waitingzz_eqzz.mono (by decide), (bp_none F_Waitingzz_eqzz 2 [] [0, 1] fun _ _ _ _ _ _ us ws l1 l2 => match us, ws, l1, l2 with | [_, _], [], _, _ => rfl), (eq_ok (z.says.fact 13 rfl))⟩⟩ dunqs_nil)) (hr.mono (by decide)) B.ps))))))) (s_one (s_ret x_bl)) s_nil)))
    (s_cons (s_set (i := 9) sc.nd (x_lst (a_cons x_non (a_cons (x_var 4) (a_cons (x_tup a_nil) (a_cons (x_reprO (k := 1) W (duns_cons ⟨⟨He.ga K "House", _, _, _, rfl, (spec_ok (z.says.fact 44 rfl)).1, (spec_ok (z.says.fact 44 rfl)).2, O_Housezz_reprzz.mono (by decide), (bp_none F_Housezz_reprzz 1 [] [0] fun _ _ _ _ _ _ us ws l1 l2 => match us, ws, l1, l2 with | [_], [], _, _ => rfl)⟩⟩ (duns_cons ⟨⟨He.ga K "Waiting", _, _, _, rfl, (spec_ok (z.says.fact 43 rfl)).1, (spec_ok (z.says.fact 43 rfl)).2, O_Waitingzz_reprzz.mono (by decide), (bp_none F_Waitingzz_reprzz 1 [] [0] fun _ _ _ _ _ _ us ws l1 l2 => match us, ws, l1, l2 with | [_], [], _, _ => rfl)⟩⟩ duns_nil)) (hr.mono (by decide)) B.ps (x_var 5) (z.free 42)) (a_cons x_int (a_cons (x_fn W (z.glo 41) F__law_house.kp O__law_house (hr.mono (by decide)) (bp_none F__law_house 1 [] [0] fun _ _ _ _ _ _ us ws l1 l2 => match us, ws, l1, l2 with | [_], [], _, _ => rfl) consts_nil B.ps (ca_pos (a_cons (x_var 1) a_nil))) (a_cons (x_lst a_nil) (a_cons x_dct0 a_nil))))))))))
    (s_one (s_ret (x_eq W (x_lc W (B.calm rfl) sc.nd (own := [("_law_thing", 10)]) (i_seq W (x_var 9)) (blk_ok (by kernel_rfl)) (fun _ _ _ _ _ => (p_name (i := 10) sc.nd)) (gN_ok 10) (by decide) (fun _ _ _ _ _ => (pts_one (PW.pt (w_or (t_cmpR (x_var 5) (x_var 10) (op_eqO (Wf.blk W) (wi z) (k := 2) (dunqs_cons ⟨⟨He.ga K "House", _, _, _, rfl, (spec_ok (z.says.fact 8 rfl)).1, (spec_ok (z.says.fact 8 rfl)).2, O_Housezz_eqzz.mono (by decide), (bp_none F_Housezz_eqzz 2 [] [0, 1] fun _ _ _ _ _ _ us ws l1 l2 => match us, ws, l1, l2 with | [_, _], [], _, _ => rfl), (eq_ok (z.says.fact 9 rfl))⟩⟩ (dunqs_cons ⟨⟨He.ga K "Waiting", _, _, _, rfl, (spec_ok (z.says.fact 12 rfl)).1, (spec_ok (z.says.fact 12 rfl)).2, O_Waitingzz_eqzz.mono (by decide), (bp_none F_Waitingzz_eqzz 2 [] [0, 1] fun _ _ _ _ _ _ us ws l1 l2 => match us, ws, l1, l2 with | [_, _], [], _, _ => rfl), (eq_ok (z.says.fact 13 rfl))⟩⟩ dunqs_nil)) ((Rm.blk hr).mono (by decide)) passE0)) (w_or (t_cmpR (x_var 10) (x_var 5) (op_eqO (Wf.blk W) (wi z) (k := 2) (dunqs_cons ⟨⟨He.ga K "House", _, _, _, rfl, (spec_ok (z.says.fact 8 rfl)).1, (spec_ok (z.says.fact 8 rfl)).2, O_Housezz_eqzz.mono (by decide), (bp_none F_Housezz_eqzz 2 [] [0, 1] fun _ _ _ _ _ _ us ws l1 l2 => match us, ws, l1, l2 with | [_, _], [], _, _ => rfl), (eq_ok (z.says.fact 9 rfl))⟩⟩ (dunqs_cons ⟨⟨He.ga K "Waiting", _, _, _, rfl, (spec_ok (z.says.fact 12 rfl)).1, (spec_ok (z.says.fact 12 rfl)).2, O_Waitingzz_eqzz.mono (by decide), (bp_none F_Waitingzz_eqzz 2 [] [0, 1] fun _ _ _ _ _ _ us ws l1 l2 => match us, ws, l1, l2 with | [_, _], [], _, _ => rfl), (eq_ok (z.says.fact 13 rfl))⟩⟩ dunqs_nil)) ((Rm.blk hr).mono (by decide)) passE0)) (w_or1 (t_not (t_cmpR (x_var 5) (x_var 10) (op_neO (Wf.blk W) (wi z) (k := 2) (dunqs_cons ⟨⟨He.ga K "House", _, _, _, rfl, (spec_ok (z.says.fact 8 rfl)).1, (spec_ok (z.says.fact 8 rfl)).2, O_Housezz_eqzz.mono (by decide), (bp_none F_Housezz_eqzz 2 [] [0, 1] fun _ _ _ _ _ _ us ws l1 l2 => match us, ws, l1, l2 with | [_, _], [], _, _ => rfl), (eq_ok (z.says.fact 9 rfl))⟩⟩ (dunqs_cons ⟨⟨He.ga K "Waiting", _, _, _, rfl, (spec_ok (z.says.fact 12 rfl)).1, (spec_ok (z.says.fact 12 rfl)).2, O_Waitingzz_eqzz.mono (by decide), (bp_none F_Waitingzz_eqzz 2 [] [0, 1] fun _ _ _ _ _ _ us ws l1 l2 => match us, ws, l1, l2 with | [_, _], [], _, _ => rfl), (eq_ok (z.says.fact 13 rfl))⟩⟩ dunqs_nil)) ((Rm.blk hr).mono (by decide)) passE0))))))))) (fun _ _ _ _ _ => (x_var 10))) (x_lst a_nil)))))))))))
theorem sc__law_purse : FnScope N__law_purse ["_law_number_here"] (defScope s__law_purse) := ⟨rfl, rfl, rfl, by decide +kernel, rfl, by decide +kernel, by decide +kernel⟩
theorem ok__law_purse {cs : List (Addr × Addr)} {xa : Option (Addr × Nat × Option Addr)} {μ : Mu} (z : Says bs fn K mg) : ∃ fd, FunD K "_law_purse" "_law_purse" (defArgs s__law_purse) (defBody s__law_purse) (defScope s__law_purse) (d__law_purse.dvs K) [] (d__law_purse.ad K) fd ∧ FnG μ P w K mg base 1 (d__law_purse.ad K) fd ["_law_number_here"] (spD (GG cs xa K) 1 f__law_purse) := by
  obtain ⟨fd, F⟩ := z.says.def_ 46 (d := d__law_purse) rfl
  have sc := sc__law_purse
  refine ⟨fd, F, fnG_ofF (fF := f__law_purse) (body := b__law_purse) F sc rfl nmL_nd (fun _ _ _ _ h => body_ofC h) fun calm pn cdv A outer s H E hcd W hr B => ?_⟩
  exact (s_cons (s_set (i := 1) sc.nd (x_if (PW.pt (w_or (t_lt (x_var 0) x_int) (w_or1 (t_ge (x_var 0) (x_pow x_int x_int))))) (x_cb call_abs f_abs (a_cons (x_var 0) a_nil) (z.free 99)) x_int))
    (s_one (s_ret (x_cel (a_cons (x_mod (x_ct call_intA f_int (a_cons (x_var 0) a_nil) (z.free 27)) x_int) (a_cons (x_var 1) (a_cons x_int a_nil)))))))
theorem sc__law_number : FnScope N__law_number ["_law_script", "_law_k"] (defScope s__law_number) := ⟨rfl, rfl, rfl, by decide +kernel, rfl, by decide +kernel, by decide +kernel⟩
theorem ok__law_number {cs : List (Addr × Addr)} {xa : Option (Addr × Nat × Option Addr)} (z : Says bs fn K mg) : ∃ fd, FunD K "_law_number" "_law_number" (defArgs s__law_number) (defBody s__law_number) (defScope s__law_number) (d__law_number.dvs K) [] (d__law_number.ad K) fd ∧ FnG none P w K mg base 1 (d__law_number.ad K) fd ["_law_script", "_law_k"] (spD (GG cs xa K) 2 f__law_number) := by
  obtain ⟨fd, F⟩ := z.says.def_ 47 (d := d__law_number) rfl
  have sc := sc__law_number
  refine ⟨fd, F, fnG_ofF (fF := f__law_number) (body := b__law_number) F sc rfl nmL_nd (fun _ _ _ _ h => body_of h) fun calm pn cdv A outer s H E hcd W hr B => ?_⟩
  exact (s_cons (s_if (t_lt (x_var 1) (x_cb call_len f_len (a_cons (x_var 0) a_nil) (z.free 3))) (s_one (s_ret (x_ix W (x_var 0) (x_var 1)))) s_nil)
    (s_cons (s_set (i := 2) sc.nd (x_mod (x_ct call_intA f_int (a_cons (x_mul x_int (x_add W (x_add W (x_mul (x_var 1) (x_var 1)) (x_mul x_int (x_var 1))) x_int)) a_nil) (z.free 27)) x_int))
    (s_cons (s_for W (B.calm rfl) B.own (i_seq W (x_sl W (x_var 0) p_none (p_some x_int))) (p_name (i := 3) sc.nd) (gN_ok 3) (s_one (s_set (i := 2) sc.nd (x_mod (x_ct call_intA f_int (a_cons (x_add W (x_mul (x_var 2) x_int) (x_var 3)) a_nil) (z.free 27)) x_int))))
    (s_one (s_ret (x_var 2))))))
theorem sc_law : FnScope N_law ["_law_script"] (defScope s_law) := ⟨rfl, rfl, rfl, by decide +kernel, rfl, by decide +kernel, by decide +kernel⟩
theorem ok_law {cs : List (Addr × Addr)} {xa : Option (Addr × Nat × Option Addr)} (z : Says bs fn K mg) : ∃ fd, FunD K "law" "law" (defArgs s_law) (defBody s_law) (defScope s_law) (d_law.dvs K) [] (d_law.ad K) fd ∧ FnG none P w K mg base 8 (d_law.ad K) fd ["_law_script"] (spD (GG cs xa K) 1 f_law) := by
  obtain ⟨fd__law_number, F__law_number, O__law_number⟩ := ok__law_number (P := P) (w := w) (base := base) (cs := cs) (xa := xa) z
  obtain ⟨fd__law_purse, F__law_purse, O__law_purse⟩ := ok__law_purse (P := P) (w := w) (base := base) (cs := cs) (xa := xa) (μ := none) z
  obtain ⟨fd__law_right, F__law_right, O__law_right⟩ := ok__law_right (P := P) (w := w) (base := base) (cs := cs) (xa := xa) z
  obtain ⟨fd, F⟩ := z.says.def_ 48 (d := d_law) rfl
  have sc := sc_law
  refine ⟨fd, F, fnG_ofF (fF := f_law) (body := b_law) F sc rfl nmL_nd (fun _ _ _ _ h => body_of h) fun calm pn cdv A outer s H E hcd W hr B => ?_⟩
  exact (s_one (s_ret (x_cb (cr_all (B.calm rfl)) f_all (a_cons (x_lc W (B.calm rfl) sc.nd (own := [("_law_k", 1)]) (i_range1 (a_cons (x_cb (call_max2 (B.calm rfl)) f_max2 (a_cons x_int (a_cons (x_cb (call_min2 (B.calm rfl)) f_min2 (a_cons (x_cb call_len f_len (a_cons (x_var 0) a_nil) (z.free 3)) (a_cons x_int a_nil)) (z.free 2)) a_nil)) (z.free 1)) a_nil) (z.free 4)) (blk_ok (by kernel_rfl)) (fun _ _ _ _ _ => (p_name (i := 1) sc.nd)) (gN_ok 1) (by decide) (fun _ _ _ _ _ => ts_nil) (fun _ _ _ _ _ => (x_fn (Wf.blk W) (z.glo 102) F__law_right.kp O__law_right ((Rm.blk hr).mono (by decide)) (bp_none F__law_right 1 [] [0] fun _ _ _ _ _ _ us ws l1 l2 => match us, ws, l1, l2 with | [_], [], _, _ => rfl) consts_nil passE0 (ca_pos (a_cons (x_fn (Wf.blk W) (z.glo 101) F__law_purse.kp O__law_purse ((Rm.blk hr).mono (by decide)) (bp_none F__law_purse 1 [] [0] fun _ _ _ _ _ _ us ws l1 l2 => match us, ws, l1, l2 with | [_], [], _, _ => rfl) consts_nil passE0 (ca_pos (a_cons (x_fn (Wf.blk W) (z.glo 100) F__law_number.kp O__law_number ((Rm.blk hr).mono (by decide)) (bp_none F__law_number 2 [] [0, 1] fun _ _ _ _ _ _ us ws l1 l2 => match us, ws, l1, l2 with | [_, _], [], _, _ => rfl) consts_nil passE0 (ca_pos (a_cons (x_var 0) (a_cons (x_var 1) a_nil)))) a_nil))) a_nil))))) a_nil) (z.free 0))))
end
abbrev R : PySem.W.OpenRow := PySem.W.OpenLaw.row PySem.Challenge.rw_offerlists_k05_lists_at_their_beginning
def asL : List Addr := [3, 6, 4, 21, 31, 51, 70, 89, 108, 127, 146, 165, 168, 175, 182, 189, 194, 199, 206, 207, 288, 299, 306, 313, 330, 349, 360, 365, 372, 379, 386, 393, 398, 403, 408, 413, 418, 423, 428, 433, 440, 531, 542, 549, 554, 561, 568, 575, 582, 589, 594, 599, 606, 613, 620, 627, 634, 639, 644, 649, 0, 20, 30, 50, 69, 88, 107, 126, 145, 164, 174, 181, 188, 193, 198, 205, 287, 298, 305, 312, 329, 348, 359, 364, 371, 378, 385, 392, 397, 402, 407, 412, 417, 422, 427, 432, 439, 530, 541, 548, 553, 560, 567, 574, 581, 588, 593, 598, 605, 612, 619, 626, 633, 638, 643, 648, 15, 17, 18, 19, 29, 32, 48, 49, 67, 68, 86, 87, 105, 106, 124, 125, 143, 144, 162, 163, 169, 171, 172, 173, 176, 178, 179, 180, 183, 185, 186, 187, 190, 192, 195, 197, 200, 202, 203, 204, 222, 231, 240, 248, 256, 264, 271, 278, 285, 286, 289, 290, 293, 295, 296, 297, 300, 302, 303, 304, 307, 309, 310, 311, 327, 328, 331, 332, 346, 347, 350, 351, 354, 356, 357, 358, 361, 363, 366, 368, 369, 370, 373, 375, 376, 377, 380, 382, 383, 384, 387, 389, 390, 391, 394, 396, 399, 401, 404, 406, 409, 411, 414, 416, 419, 421, 424, 426, 429, 431, 434, 436, 437, 438, 454, 462, 470, 478, 486, 493, 500, 507, 514, 521, 528, 529, 532, 533, 536, 538, 539, 540, 543, 545, 546, 547, 550, 552, 555, 557, 558, 559, 562, 564, 565, 566, 569, 571, 572, 573, 576, 578, 579, 580, 583, 585, 586, 587, 590, 592, 595, 597, 600, 602, 603, 604, 607, 609, 610, 611, 614, 616, 617, 618, 621, 623, 624, 625, 628, 630, 631, 632, 635, 637, 640, 642, 645, 647, 47, 66, 85, 104, 123, 142, 161, 221, 215, 229, 230, 239, 247, 255, 263, 270, 277, 284, 326, 345, 453, 461, 469, 477, 485, 492, 499, 506, 513, 520, 527, 42, 44, 45, 46, 61, 63, 64, 65, 80, 82, 83, 84, 99, 101, 102, 103, 118, 120, 121, 122, 137, 139, 140, 141, 156, 158, 159, 160, 216, 218, 219, 220, 228, 232, 238, 246, 254, 262, 265, 267, 268, 269, 272, 274, 275, 276, 279, 281, 282, 283, 321, 323, 324, 325, 342, 344, 448, 450, 451, 452, 460, 468, 476, 484, 487, 489, 490, 491, 494, 496, 497, 498, 501, 503, 504, 505, 508, 510, 511, 512, 515, 517, 518, 519, 522, 524, 525, 526, 223, 225, 226, 227, 233, 235, 236, 237, 241, 243, 244, 245, 249, 251, 252, 253, 257, 259, 260, 261, 455, 457, 458, 459, 463, 465, 466, 467, 471, 473, 474, 475, 479, 481, 482, 483, 2]
abbrev hk : PySem.W.Hook := hookTL asL bs fn lam
def ob (s : PySem.W.SharedT) : AlT := obsTL asL bs fn lam (HandSHeadRun.getT s)
def loose : List Str := [("_wall" : Str), ("__name__" : Str), ("NotRight" : Str), ("InvalidWave" : Str), ("InvalidDays" : Str), ("InvalidWord" : Str), ("InvalidText" : Str), ("NotAHouse" : Str), ("InvalidEntries" : Str), ("InvalidEvents" : Str), ("MOST_WAVE" : Str), ("MOST_DAYS" : Str), ("MOST_KINDS" : Str), ("MOST_ENTRIES" : Str), ("WORDS" : Str), ("MOST_CHARACTERS" : Str), ("LETTERS" : Str), ("LETTERS_AND_DIGITS" : Str), ("is_integer" : Str), ("is_number" : Str), ("is_pair" : Str), ("is_name" : Str), ("is_lot" : Str), ("read_number" : Str), ("FIXED_WORDS" : Str), ("House" : Str), ("is_word" : Str), ("house_parts" : Str), ("check_house" : Str), ("Place" : Str), ("Day" : Str), ("morning" : Str), ("next_names" : Str), ("happen" : Str), ("come" : Str), ("join_list" : Str), ("leave_list" : Str), ("answer" : Str), ("put_off" : Str), ("evening" : Str), ("give_places" : Str), ("has_declined" : Str), ("end_declined" : Str), ("has_expiring" : Str), ("end_expiring" : Str), ("treat" : Str), ("Waiting" : Str), ("check_entries" : Str), ("day_of" : Str), ("list_behind" : Str), ("_law_number" : Str), ("_law_purse" : Str), ("_law_pick" : Str), ("_law_word" : Str), ("_law_names" : Str), ("_law_lot" : Str), ("_law_people" : Str), ("_law_rules" : Str), ("_law_house" : Str), ("_law_house_text" : Str), ("_law_shown" : Str), ("_law_spare" : Str), ("_law_near_lists" : Str), ("_law_right" : Str)]
theorem run1 (w : World) : HandSHeadRun.RunEq R (PySem.W.view R.prog [70]) (hookTL asL (bs.take 62) [] []) (fun s => obsTL asL (bs.take 62) [] [] (HandSHeadRun.getT s)) 12000 [("_wall" : Str), ("__name__" : Str), ("NotRight" : Str), ("InvalidWave" : Str), ("InvalidDays" : Str), ("InvalidWord" : Str), ("InvalidText" : Str), ("NotAHouse" : Str), ("InvalidEntries" : Str), ("InvalidEvents" : Str), ("MOST_WAVE" : Str), ("MOST_DAYS" : Str), ("MOST_KINDS" : Str), ("MOST_ENTRIES" : Str), ("WORDS" : Str), ("MOST_CHARACTERS" : Str), ("LETTERS" : Str), ("LETTERS_AND_DIGITS" : Str), ("is_integer" : Str), ("is_number" : Str), ("is_pair" : Str), ("is_name" : Str), ("is_lot" : Str), ("read_number" : Str), ("FIXED_WORDS" : Str), ("House" : Str), ("is_word" : Str), ("house_parts" : Str), ("check_house" : Str), ("Place" : Str), ("Day" : Str), ("morning" : Str), ("next_names" : Str), ("happen" : Str), ("come" : Str), ("join_list" : Str), ("leave_list" : Str), ("answer" : Str), ("put_off" : Str), ("evening" : Str), ("give_places" : Str), ("has_declined" : Str), ("end_declined" : Str), ("has_expiring" : Str), ("end_expiring" : Str), ("treat" : Str), ("Waiting" : Str), ("check_entries" : Str), ("day_of" : Str), ("list_behind" : Str), ("_law_number" : Str), ("_law_purse" : Str), ("_law_pick" : Str), ("_law_word" : Str), ("_law_names" : Str), ("_law_lot" : Str), ("_law_people" : Str), ("_law_rules" : Str), ("_law_house" : Str), ("_law_house_text" : Str), ("_law_shown" : Str), ("_law_spare" : Str), ("_law_near_lists" : Str), ("_law_right" : Str)] w := by
  intro os
  kernel_rfl
theorem run2 (w : World) (os : OsState) : (HandSHeadRun.endF (HandSHeadRun.stepQ (HandSHeadRun.denQ HandSHeadRun.tabQ) R.prog w) 12000 R.prog w os).map (fun s => obsTL asL (bs.drop 62) fn lam (HandSHeadRun.getT s)) = some (valP fn, true) := by
  kernel_rfl
theorem run (w : World) : HandSHeadRun.RunEq R (PySem.W.view R.prog [70]) hk ob 12000 [("_wall" : Str), ("__name__" : Str), ("NotRight" : Str), ("InvalidWave" : Str), ("InvalidDays" : Str), ("InvalidWord" : Str), ("InvalidText" : Str), ("NotAHouse" : Str), ("InvalidEntries" : Str), ("InvalidEvents" : Str), ("MOST_WAVE" : Str), ("MOST_DAYS" : Str), ("MOST_KINDS" : Str), ("MOST_ENTRIES" : Str), ("WORDS" : Str), ("MOST_CHARACTERS" : Str), ("LETTERS" : Str), ("LETTERS_AND_DIGITS" : Str), ("is_integer" : Str), ("is_number" : Str), ("is_pair" : Str), ("is_name" : Str), ("is_lot" : Str), ("read_number" : Str), ("FIXED_WORDS" : Str), ("House" : Str), ("is_word" : Str), ("house_parts" : Str), ("check_house" : Str), ("Place" : Str), ("Day" : Str), ("morning" : Str), ("next_names" : Str), ("happen" : Str), ("come" : Str), ("join_list" : Str), ("leave_list" : Str), ("answer" : Str), ("put_off" : Str), ("evening" : Str), ("give_places" : Str), ("has_declined" : Str), ("end_declined" : Str), ("has_expiring" : Str), ("end_expiring" : Str), ("treat" : Str), ("Waiting" : Str), ("check_entries" : Str), ("day_of" : Str), ("list_behind" : Str), ("_law_number" : Str), ("_law_purse" : Str), ("_law_pick" : Str), ("_law_word" : Str), ("_law_names" : Str), ("_law_lot" : Str), ("_law_people" : Str), ("_law_rules" : Str), ("_law_house" : Str), ("_law_house_text" : Str), ("_law_shown" : Str), ("_law_spare" : Str), ("_law_near_lists" : Str), ("_law_right" : Str)] w := run_cut 62 (run1 w) (run2 w)
/-- what the law asks, in plain Lean -/
def Asked : Prop := ∀ ns : List Int, ns.length ≤ 63 → ∃ S, f_law [.scr (ns.map .int)] (tblS 0) = .ok (.bl true, S)
end K05
open PySem PySem.W PySem.Calls PyProof.Rows
theorem K05.holds_of (hA : K05.Asked) : PySem.Challenge.rw_offerlists_k05_lists_at_their_beginning.Holds := by
  w_on; o_law
  refine HandSHeadRun.head_any (r := OpenLaw.row PySem.Challenge.rw_offerlists_k05_lists_at_their_beginning) (q := view (OpenLaw.row PySem.Challenge.rw_offerlists_k05_lists_at_their_beginning).prog [70]) (H := K05.hk) (ob := K05.ob) (M := 12000) (loose := [("_wall" : Str), ("__name__" : Str), ("NotRight" : Str), ("InvalidWave" : Str), ("InvalidDays" : Str), ("InvalidWord" : Str), ("InvalidText" : Str), ("NotAHouse" : Str), ("InvalidEntries" : Str), ("InvalidEvents" : Str), ("MOST_WAVE" : Str), ("MOST_DAYS" : Str), ("MOST_KINDS" : Str), ("MOST_ENTRIES" : Str), ("WORDS" : Str), ("MOST_CHARACTERS" : Str), ("LETTERS" : Str), ("LETTERS_AND_DIGITS" : Str), ("is_integer" : Str), ("is_number" : Str), ("is_pair" : Str), ("is_name" : Str), ("is_lot" : Str), ("read_number" : Str), ("FIXED_WORDS" : Str), ("House" : Str), ("is_word" : Str), ("house_parts" : Str), ("check_house" : Str), ("Place" : Str), ("Day" : Str), ("morning" : Str), ("next_names" : Str), ("happen" : Str), ("come" : Str), ("join_list" : Str), ("leave_list" : Str), ("answer" : Str), ("put_off" : Str), ("evening" : Str), ("give_places" : Str), ("has_declined" : Str), ("end_declined" : Str), ("has_expiring" : Str), ("end_expiring" : Str), ("treat" : Str), ("Waiting" : Str), ("check_entries" : Str), ("day_of" : Str), ("list_behind" : Str), ("_law_number" : Str), ("_law_purse" : Str), ("_law_pick" : Str), ("_law_word" : Str), ("_law_names" : Str), ("_law_lot" : Str), ("_law_people" : Str), ("_law_rules" : Str), ("_law_house" : Str), ("_law_house_text" : Str), ("_law_shown" : Str), ("_law_spare" : Str), ("_law_near_lists" : Str), ("_law_right" : Str)]) (d := HandSHeadRun.topDef (OpenLaw.row PySem.Challenge.rw_offerlists_k05_lists_at_their_beginning).prog 70) (kwd := []) Pd.obsTL_eq
    (by kernel_rfl) (fun s => by kernel_rfl) K05.run (by kernel_rfl) (by kernel_rfl) (by kernel_rfl) (by rfl) (by first | assumption | decide +kernel) (by decide +kernel) ⟨rfl, rfl, rfl, rfl, rfl, by decide +kernel⟩ ?hw ?hc
  case hw => w_witness2
  case hc =>
    refine Pd.walk_T (lam := K05.lam) (l := PySem.Challenge.rw_offerlists_k05_lists_at_their_beginning) (n := 63) (k := 8) (x := "_law_script") rfl (by decide) (by kernel_rfl) ⟨rfl, by decide, by decide⟩ ?F
    intro w mg fa h Y G hmg0
    obtain ⟨K, KX, c, cs, T⟩ := Y
    have hmg : mg ("law" : PySem.Str) = some (.ref fa) := by
      have e : (HandSHeadRun.topDef (OpenLaw.row PySem.Challenge.rw_offerlists_k05_lists_at_their_beginning).prog 70).name = ("law" : PySem.Str) := by kernel_rfl
      rw [← e]
      exact hmg0
    have z : Pd.Says K05.bs K05.fn K mg := ⟨⟨h, KX, G⟩, c⟩
    have hga : mg ("law" : PySem.Str) = some (.ref (He.ga K "law")) := z.glo 187
    obtain rfl : fa = He.ga K "law" := by
      rw [hmg] at hga
      cases hga
      rfl
    obtain ⟨fd, F⟩ := z.says.def_ 48 (d := K05.d_law) rfl
    have b := L2.FunD.bindsA (ps := ["_law_script"]) F fun _ _ _ _ _ _ us hl => match us, hl with | [_], _ => rfl
    refine ⟨K, cs, fd, Pd.spD (K05.GG cs none K) 1 K05.f_law, KX, T, fun s v => b s [v] rfl, fun H a ns hl hH na hS => Pd.law_spT (ts := cs.map (·.2)) (qs := K05.lamQ) rfl (by rw [List.length_map, T.len]; rfl) T.nd hA H a ns hl hH na hS, fun base hb hn tb => ?_⟩
    obtain ⟨fd', F', O'⟩ := K05.ok_law (P := (PySem.Challenge.rw_offerlists_k05_lists_at_their_beginning).prog) (w := w) (base := base) (cs := cs) (xa := none) z
    obtain rfl := Pd.funD_uniq F F'
    exact O'
end
section
namespace K05
open PySem PySem.Spec PyProof.Rows L2 Pd
theorem leave_id {S : Store} {d : D} : leave S d S = .ok (d, S) := Pd.leave_same rfl
theorem pick_eq : f__law_pick = pickF := rfl
theorem number_eq : f__law_number = numberF := rfl
theorem purse_eq : f__law_purse = purseF := rfl
theorem names_eq : f__law_names = namesF menuS [(0, f_Housezz_strzz)] := rfl
theorem spare_eq : f__law_spare = spareF [(0, f_Housezz_strzz)] := rfl
theorem lot_eq : f__law_lot = lotF := rfl
theorem people_eq : f__law_people = peopleF := rfl
theorem rules_eq : f__law_rules = rulesF := rfl
abbrev Ok := RulesOk 9
def fsH (w d : Int) (s e : Str) : List (Nat × D) := [(0, .int w), (1, .int d), (2, .str s), (3, .str e)]
def hD (w d : Int) (s e : Str) : D := .ins 0 (fsH w d s e)
def txt (w d : Int) (s e : Str) : Str := ("house wave " : Str) ++ istr w ++ (" days " : Str) ++ istr d ++ (" silent " : Str) ++ s ++ (" declined " : Str) ++ e
theorem ln1 : Str.length "house wave " = 11 := by decide +kernel
theorem ln2 : Str.length " days " = 6 := by decide +kernel
theorem ln3 : Str.length " silent " = 8 := by decide +kernel
theorem ln4 : Str.length " declined " = 10 := by decide +kernel
section
variable {w d : Int} {s e : Str} {S : Store}
theorem dd (h : Ok w d s e) : d = 1 ∨ d = 2 ∨ d = 3 ∨ d = 4 ∨ d = 5 ∨ d = 6 ∨ d = 7 ∨ d = 8 ∨ d = 9 := by
  have := h.d1
  have := h.d2
  omega
theorem lw (h : Ok w d s e) : (istr w).length ≤ 2 := by
  rcases h.w with rfl | rfl | rfl <;> decide +kernel
theorem ld (h : Ok w d s e) : (istr d).length ≤ 2 := by
  rcases dd h with rfl | rfl | rfl | rfl | rfl | rfl | rfl | rfl | rfl <;> decide +kernel
theorem pw (h : Ok w d s e) : w.natAbs.log2 < 1920 := by
  rcases h.w with rfl | rfl | rfl <;> decide +kernel
theorem pd (h : Ok w d s e) : d.natAbs.log2 < 1920 := by
  rcases dd h with rfl | rfl | rfl | rfl | rfl | rfl | rfl | rfl | rfl <;> decide +kernel
theorem text_t (h : Ok w d s e) : f__law_house_text [.tup [.int w, .int d, .str s, .str e]] S = .ok (.str (txt w d s e), S) := by
  have a1 := lw h
  have a2 := ld h
  have a3 := h.s.len
  have a4 := h.e.len
  simp (disch := (first | omega | (simp only [slen_app, slen_empty, ln1, ln2, ln3, ln4]; omega))) only [f__law_house_text, b__law_house_text, eVar, eC, eBin, eBinR, eB, eTru, eNotT, eOrT, eAndT, eNot, eAnd, eOr, eIf, sSeq, sSet, sIf, sRet, sRetN, sExpr, sNil, sPar, sPar3, sAsg, sAsq, gTu, gCn, gN, gNl, qTu, qCn, qN, qNl, qSub, aCons, aNil, aApp, eTup, eLst, eCel, ofO, ofP, Res.bind, Res.out, Res.bind0, eCb, f1, f2, eCallP, eSl, eSlS, pNone, pSome, sSub, eFld, fnD, fnDC, startD, pick, eChain, eIsi, eProp, noX, eMt, eM0, sFor, iSeq, iRange1, iRange2, eDct0, onlyS, onlyB, addD_int, subD_int, ltD_int, gtD_int, leD_int, geD_int, ixD_tup, ixD_lst, ixD_scr, atI_0, atI_1, atI_2, atI_3, atI_4, atI_5, atI_6, atI_7, atI_8, toIntD_int, truD_bl, List.getElem?_cons_zero, List.getElem?_cons_succ, List.getElem?_nil, List.set_cons_zero, List.set_cons_succ, List.length_cons, List.length_nil, List.map_cons, List.map_nil, List.replicate, List.append_nil, List.nil_append, List.cons_append, List.filterMap_cons, List.filterMap_nil, Nat.sub_self, Nat.zero_add, Nat.reduceAdd, Nat.reduceSub, Option.map_some, Option.map_none, if_true, if_false, ite_true, ite_false, reduceIte, Bool.false_eq_true, Nat.reduceLeDiff, Nat.reduceLT, Int.reduceLE, Int.reduceLT, Int.reduceEq, Nat.reduceBEq, Nat.reduceEqDiff, beq_self_eq_true, Bool.and_self, Bool.and_true, Bool.true_and, Bool.not_true, Bool.not_false, Bool.or_true, Bool.true_or, Bool.false_or, Bool.or_false, Bool.and_false, Bool.false_and, decide_true, decide_false, dunE, fldsD_int, fldsD_str, fldsD_bl, fldsD_non, fldsD_lst, fldsD_tup, fldsD_scr, fldsD_dct, fldsD_ins, kdD_int, kdD_str, kdD_bl, kdD_non, kdD_lst, kdD_tup, kdD_scr, kdD_dct, kdD_ins, lenF_scr, lenF_lst, lenF_tup, listF_lst, listF_tup, listC_lst, listC_tup, tupleF_lst, tupleF_tup, eqD_int, eqD_bl, neD_int, isN_non, isN_int, isN_tup, strD_str, isT_lst, isT_str, seqL_lst, seqA_lst, seqA_tup, slD_lst, slD_tup, List.lookup, List.find?, eJs_nil, eJs_cons, eFmt_eq, sempty_app, eCmP, eMakeP, eMakeL, sFldD, Nat.reduceEqDiff, eqO, neO, bltD, Option.isSome_some, and_self, bne_self_eq_false, Bool.bne_false, Bool.bne_true, Bool.true_bne, Bool.false_bne, strD_int (pw h), strD_int (pd h), addD_str]
  exact leave_id
theorem str_ok (h : Ok w d s e) : f_Housezz_strzz [hD w d s e] S = .ok (.str (txt w d s e), S) := by
  have a1 := lw h
  have a2 := ld h
  have a3 := h.s.len
  have a4 := h.e.len
  simp (disch := (first | omega | (simp only [slen_app, slen_empty, ln1, ln2, ln3, ln4]; omega))) only [f_Housezz_strzz, b_Housezz_strzz, hD, fsH, eVar, eC, eBin, eBinR, eB, eTru, eNotT, eOrT, eAndT, eNot, eAnd, eOr, eIf, sSeq, sSet, sIf, sRet, sRetN, sExpr, sNil, sPar, sPar3, sAsg, sAsq, gTu, gCn, gN, gNl, qTu, qCn, qN, qNl, qSub, aCons, aNil, aApp, eTup, eLst, eCel, ofO, ofP, Res.bind, Res.out, Res.bind0, eCb, f1, f2, eCallP, eSl, eSlS, pNone, pSome, sSub, eFld, fnD, fnDC, startD, pick, eChain, eIsi, eProp, noX, eMt, eM0, sFor, iSeq, iRange1, iRange2, eDct0, onlyS, onlyB, addD_int, subD_int, ltD_int, gtD_int, leD_int, geD_int, ixD_tup, ixD_lst, ixD_scr, atI_0, atI_1, atI_2, atI_3, atI_4, atI_5, atI_6, atI_7, atI_8, toIntD_int, truD_bl, List.getElem?_cons_zero, List.getElem?_cons_succ, List.getElem?_nil, List.set_cons_zero, List.set_cons_succ, List.length_cons, List.length_nil, List.map_cons, List.map_nil, List.replicate, List.append_nil, List.nil_append, List.cons_append, List.filterMap_cons, List.filterMap_nil, Nat.sub_self, Nat.zero_add, Nat.reduceAdd, Nat.reduceSub, Option.map_some, Option.map_none, if_true, if_false, ite_true, ite_false, reduceIte, Bool.false_eq_true, Nat.reduceLeDiff, Nat.reduceLT, Int.reduceLE, Int.reduceLT, Int.reduceEq, Nat.reduceBEq, Nat.reduceEqDiff, beq_self_eq_true, Bool.and_self, Bool.and_true, Bool.true_and, Bool.not_true, Bool.not_false, Bool.or_true, Bool.true_or, Bool.false_or, Bool.or_false, Bool.and_false, Bool.false_and, decide_true, decide_false, dunE, fldsD_int, fldsD_str, fldsD_bl, fldsD_non, fldsD_lst, fldsD_tup, fldsD_scr, fldsD_dct, fldsD_ins, kdD_int, kdD_str, kdD_bl, kdD_non, kdD_lst, kdD_tup, kdD_scr, kdD_dct, kdD_ins, lenF_scr, lenF_lst, lenF_tup, listF_lst, listF_tup, listC_lst, listC_tup, tupleF_lst, tupleF_tup, eqD_int, eqD_bl, neD_int, isN_non, isN_int, isN_tup, strD_str, isT_lst, isT_str, seqL_lst, seqA_lst, seqA_tup, slD_lst, slD_tup, List.lookup, List.find?, eJs_nil, eJs_cons, eFmt_eq, sempty_app, eCmP, eMakeP, eMakeL, sFldD, Nat.reduceEqDiff, eqO, neO, bltD, Option.isSome_some, and_self, bne_self_eq_false, Bool.bne_false, Bool.bne_true, Bool.true_bne, Bool.false_bne, eJsK_str, fmtK_str, fmtK_int (pw h), fmtK_int (pd h)]
  exact leave_id
theorem okw (h : Ok w d s e) : PyData.strOk (istr w) = true := strOk_istr _
theorem okt (h : Ok w d s e) : PyData.strOk (txt w d s e) = true :=
  strOk_app (strOk_app (strOk_app (strOk_app (strOk_app (strOk_app (strOk_app (by decide +kernel) (strOk_istr _)) (by decide +kernel)) (strOk_istr _)) (by decide +kernel)) h.s.ok) (by decide +kernel)) h.e.ok
theorem num_w (h : Ok w d s e) : f_is_number [.int w, .int 1, .int 3] S = .ok (.bl true, S) := by
  have h1 : (1 : Int) ≤ w := by rcases h.w with rfl | rfl | rfl <;> omega
  have h2 : w ≤ 3 := by rcases h.w with rfl | rfl | rfl <;> omega
  simp only [f_is_number, b_is_number, f_is_integer, b_is_integer, leave_id, eVar, eC, eBin, eBinR, eB, eTru, eNotT, eOrT, eAndT, eNot, eAnd, eOr, eIf, sSeq, sSet, sIf, sRet, sRetN, sExpr, sNil, sPar, sPar3, sAsg, sAsq, gTu, gCn, gN, gNl, qTu, qCn, qN, qNl, qSub, aCons, aNil, aApp, eTup, eLst, eCel, ofO, ofP, Res.bind, Res.out, Res.bind0, eCb, f1, f2, eCallP, eSl, eSlS, pNone, pSome, sSub, eFld, fnD, fnDC, startD, pick, eChain, eIsi, eProp, noX, eMt, eM0, sFor, iSeq, iRange1, iRange2, eDct0, onlyS, onlyB, addD_int, subD_int, ltD_int, gtD_int, leD_int, geD_int, ixD_tup, ixD_lst, ixD_scr, atI_0, atI_1, atI_2, atI_3, atI_4, atI_5, atI_6, atI_7, atI_8, toIntD_int, truD_bl, List.getElem?_cons_zero, List.getElem?_cons_succ, List.getElem?_nil, List.set_cons_zero, List.set_cons_succ, List.length_cons, List.length_nil, List.map_cons, List.map_nil, List.replicate, List.append_nil, List.nil_append, List.cons_append, List.filterMap_cons, List.filterMap_nil, Nat.sub_self, Nat.zero_add, Nat.reduceAdd, Nat.reduceSub, Option.map_some, Option.map_none, if_true, if_false, ite_true, ite_false, reduceIte, Bool.false_eq_true, Nat.reduceLeDiff, Nat.reduceLT, Int.reduceLE, Int.reduceLT, Int.reduceEq, Nat.reduceBEq, Nat.reduceEqDiff, beq_self_eq_true, Bool.and_self, Bool.and_true, Bool.true_and, Bool.not_true, Bool.not_false, Bool.or_true, Bool.true_or, Bool.false_or, Bool.or_false, Bool.and_false, Bool.false_and, decide_true, decide_false, dunE, fldsD_int, fldsD_str, fldsD_bl, fldsD_non, fldsD_lst, fldsD_tup, fldsD_scr, fldsD_dct, fldsD_ins, kdD_int, kdD_str, kdD_bl, kdD_non, kdD_lst, kdD_tup, kdD_scr, kdD_dct, kdD_ins, lenF_scr, lenF_lst, lenF_tup, listF_lst, listF_tup, listC_lst, listC_tup, tupleF_lst, tupleF_tup, eqD_int, eqD_bl, neD_int, isN_non, isN_int, isN_tup, strD_str, isT_lst, isT_str, seqL_lst, seqA_lst, seqA_tup, slD_lst, slD_tup, List.lookup, List.find?, eJs_nil, eJs_cons, eFmt_eq, sempty_app, eCmP, eMakeP, eMakeL, sFldD, Nat.reduceEqDiff, eqO, neO, bltD, Option.isSome_some, and_self, bne_self_eq_false, Bool.bne_false, Bool.bne_true, Bool.true_bne, Bool.false_bne, tab_int, tab_bool, decide_eq_true h1, decide_eq_true h2]
theorem num_d (h : Ok w d s e) : f_is_number [.int d, .int 1, .int 9] S = .ok (.bl true, S) := by
  simp only [f_is_number, b_is_number, f_is_integer, b_is_integer, leave_id, eVar, eC, eBin, eBinR, eB, eTru, eNotT, eOrT, eAndT, eNot, eAnd, eOr, eIf, sSeq, sSet, sIf, sRet, sRetN, sExpr, sNil, sPar, sPar3, sAsg, sAsq, gTu, gCn, gN, gNl, qTu, qCn, qN, qNl, qSub, aCons, aNil, aApp, eTup, eLst, eCel, ofO, ofP, Res.bind, Res.out, Res.bind0, eCb, f1, f2, eCallP, eSl, eSlS, pNone, pSome, sSub, eFld, fnD, fnDC, startD, pick, eChain, eIsi, eProp, noX, eMt, eM0, sFor, iSeq, iRange1, iRange2, eDct0, onlyS, onlyB, addD_int, subD_int, ltD_int, gtD_int, leD_int, geD_int, ixD_tup, ixD_lst, ixD_scr, atI_0, atI_1, atI_2, atI_3, atI_4, atI_5, atI_6, atI_7, atI_8, toIntD_int, truD_bl, List.getElem?_cons_zero, List.getElem?_cons_succ, List.getElem?_nil, List.set_cons_zero, List.set_cons_succ, List.length_cons, List.length_nil, List.map_cons, List.map_nil, List.replicate, List.append_nil, List.nil_append, List.cons_append, List.filterMap_cons, List.filterMap_nil, Nat.sub_self, Nat.zero_add, Nat.reduceAdd, Nat.reduceSub, Option.map_some, Option.map_none, if_true, if_false, ite_true, ite_false, reduceIte, Bool.false_eq_true, Nat.reduceLeDiff, Nat.reduceLT, Int.reduceLE, Int.reduceLT, Int.reduceEq, Nat.reduceBEq, Nat.reduceEqDiff, beq_self_eq_true, Bool.and_self, Bool.and_true, Bool.true_and, Bool.not_true, Bool.not_false, Bool.or_true, Bool.true_or, Bool.false_or, Bool.or_false, Bool.and_false, Bool.false_and, decide_true, decide_false, dunE, fldsD_int, fldsD_str, fldsD_bl, fldsD_non, fldsD_lst, fldsD_tup, fldsD_scr, fldsD_dct, fldsD_ins, kdD_int, kdD_str, kdD_bl, kdD_non, kdD_lst, kdD_tup, kdD_scr, kdD_dct, kdD_ins, lenF_scr, lenF_lst, lenF_tup, listF_lst, listF_tup, listC_lst, listC_tup, tupleF_lst, tupleF_tup, eqD_int, eqD_bl, neD_int, isN_non, isN_int, isN_tup, strD_str, isT_lst, isT_str, seqL_lst, seqA_lst, seqA_tup, slD_lst, slD_tup, List.lookup, List.find?, eJs_nil, eJs_cons, eFmt_eq, sempty_app, eCmP, eMakeP, eMakeL, sFldD, Nat.reduceEqDiff, eqO, neO, bltD, Option.isSome_some, and_self, bne_self_eq_false, Bool.bne_false, Bool.bne_true, Bool.true_bne, Bool.false_bne, tab_int, tab_bool, decide_eq_true h.d1, decide_eq_true h.d2]
theorem inW (h : IsW s) : inD S (.str s) (.tup [.str "keep", .str "back", .str "out"]) = some (.bl true) := by
  rcases h with rfl | rfl | rfl <;> kernel_rfl
theorem word_ok (h : IsW s) : f_is_word [.str s] S = .ok (.bl true, S) := by
  simp only [f_is_word, b_is_word, eVar, eC, eBin, eBinR, eB, eTru, eNotT, eOrT, eAndT, eNot, eAnd, eOr, eIf, sSeq, sSet, sIf, sRet, sRetN, sExpr, sNil, sPar, sPar3, sAsg, sAsq, gTu, gCn, gN, gNl, qTu, qCn, qN, qNl, qSub, aCons, aNil, aApp, eTup, eLst, eCel, ofO, ofP, Res.bind, Res.out, Res.bind0, eCb, f1, f2, eCallP, eSl, eSlS, pNone, pSome, sSub, eFld, fnD, fnDC, startD, pick, eChain, eIsi, eProp, noX, eMt, eM0, sFor, iSeq, iRange1, iRange2, eDct0, onlyS, onlyB, addD_int, subD_int, ltD_int, gtD_int, leD_int, geD_int, ixD_tup, ixD_lst, ixD_scr, atI_0, atI_1, atI_2, atI_3, atI_4, atI_5, atI_6, atI_7, atI_8, toIntD_int, truD_bl, List.getElem?_cons_zero, List.getElem?_cons_succ, List.getElem?_nil, List.set_cons_zero, List.set_cons_succ, List.length_cons, List.length_nil, List.map_cons, List.map_nil, List.replicate, List.append_nil, List.nil_append, List.cons_append, List.filterMap_cons, List.filterMap_nil, Nat.sub_self, Nat.zero_add, Nat.reduceAdd, Nat.reduceSub, Option.map_some, Option.map_none, if_true, if_false, ite_true, ite_false, reduceIte, Bool.false_eq_true, Nat.reduceLeDiff, Nat.reduceLT, Int.reduceLE, Int.reduceLT, Int.reduceEq, Nat.reduceBEq, Nat.reduceEqDiff, beq_self_eq_true, Bool.and_self, Bool.and_true, Bool.true_and, Bool.not_true, Bool.not_false, Bool.or_true, Bool.true_or, Bool.false_or, Bool.or_false, Bool.and_false, Bool.false_and, decide_true, decide_false, dunE, fldsD_int, fldsD_str, fldsD_bl, fldsD_non, fldsD_lst, fldsD_tup, fldsD_scr, fldsD_dct, fldsD_ins, kdD_int, kdD_str, kdD_bl, kdD_non, kdD_lst, kdD_tup, kdD_scr, kdD_dct, kdD_ins, lenF_scr, lenF_lst, lenF_tup, listF_lst, listF_tup, listC_lst, listC_tup, tupleF_lst, tupleF_tup, eqD_int, eqD_bl, neD_int, isN_non, isN_int, isN_tup, strD_str, isT_lst, isT_str, seqL_lst, seqA_lst, seqA_tup, slD_lst, slD_tup, List.lookup, List.find?, eJs_nil, eJs_cons, eFmt_eq, sempty_app, eCmP, eMakeP, eMakeL, sFldD, Nat.reduceEqDiff, eqO, neO, bltD, Option.isSome_some, and_self, bne_self_eq_false, Bool.bne_false, Bool.bne_true, Bool.true_bne, Bool.false_bne, tab_str, inW h]
  exact leave_id
theorem init_ok (h : Ok w d s e) {T : Store} {L : Nat} (hL : T.length = L) : f_Housezz_initzz [.ref L, .int w, .int d, .str s, .str e] (T ++ [.ins 0 []]) = .ok (.non, T ++ [.ins 0 (fsH w d s e)]) := by
  have g : ∀ {fs i d}, fs.length < 1000 → setFD (T ++ [Cell.ins 0 fs]) (.ref L) i d = some (T ++ [.ins 0 (putN i d fs)]) := fun {fs i d} hl => by rw [setFD_ref (get_end hL) hl, set_end hL]
  simp (disch := simp) only [f_Housezz_initzz, b_Housezz_initzz, eVar, eC, eBin, eBinR, eB, eTru, eNotT, eOrT, eAndT, eNot, eAnd, eOr, eIf, sSeq, sSet, sIf, sRet, sRetN, sExpr, sNil, sPar, sPar3, sAsg, sAsq, gTu, gCn, gN, gNl, qTu, qCn, qN, qNl, qSub, aCons, aNil, aApp, eTup, eLst, eCel, ofO, ofP, Res.bind, Res.out, Res.bind0, eCb, f1, f2, eCallP, eSl, eSlS, pNone, pSome, sSub, eFld, fnD, fnDC, startD, pick, eChain, eIsi, eProp, noX, eMt, eM0, sFor, iSeq, iRange1, iRange2, eDct0, onlyS, onlyB, addD_int, subD_int, ltD_int, gtD_int, leD_int, geD_int, ixD_tup, ixD_lst, ixD_scr, atI_0, atI_1, atI_2, atI_3, atI_4, atI_5, atI_6, atI_7, atI_8, toIntD_int, truD_bl, List.getElem?_cons_zero, List.getElem?_cons_succ, List.getElem?_nil, List.set_cons_zero, List.set_cons_succ, List.length_cons, List.length_nil, List.map_cons, List.map_nil, List.replicate, List.append_nil, List.nil_append, List.cons_append, List.filterMap_cons, List.filterMap_nil, Nat.sub_self, Nat.zero_add, Nat.reduceAdd, Nat.reduceSub, Option.map_some, Option.map_none, if_true, if_false, ite_true, ite_false, reduceIte, Bool.false_eq_true, Nat.reduceLeDiff, Nat.reduceLT, Int.reduceLE, Int.reduceLT, Int.reduceEq, Nat.reduceBEq, Nat.reduceEqDiff, beq_self_eq_true, Bool.and_self, Bool.and_true, Bool.true_and, Bool.not_true, Bool.not_false, Bool.or_true, Bool.true_or, Bool.false_or, Bool.or_false, Bool.and_false, Bool.false_and, decide_true, decide_false, dunE, fldsD_int, fldsD_str, fldsD_bl, fldsD_non, fldsD_lst, fldsD_tup, fldsD_scr, fldsD_dct, fldsD_ins, kdD_int, kdD_str, kdD_bl, kdD_non, kdD_lst, kdD_tup, kdD_scr, kdD_dct, kdD_ins, lenF_scr, lenF_lst, lenF_tup, listF_lst, listF_tup, listC_lst, listC_tup, tupleF_lst, tupleF_tup, eqD_int, eqD_bl, neD_int, isN_non, isN_int, isN_tup, strD_str, isT_lst, isT_str, seqL_lst, seqA_lst, seqA_tup, slD_lst, slD_tup, List.lookup, List.find?, eJs_nil, eJs_cons, eFmt_eq, sempty_app, eCmP, eMakeP, eMakeL, sFldD, Nat.reduceEqDiff, eqO, neO, bltD, Option.isSome_some, and_self, bne_self_eq_false, Bool.bne_false, Bool.bne_true, Bool.true_bne, Bool.false_bne, num_w h, num_d h, word_ok h.s, word_ok h.e, loopL, List.length_append, g, Pd.putN, Nat.reduceEqDiff]
  rw [Pd.leave_same (by simp)]
  rfl
theorem leave_h {T : Store} {L : Nat} (hL : T.length = L) : leave T (.ref L) (T ++ [.ins 0 (fsH w d s e)]) = .ok (hD w d s e, T) := leave_ins hL rfl (oldOk_refl _ _ _) rfl
theorem hmake {n j : Nat} {dds : List D} {plan : List Nat} {ga gk : EvA} {ρ : Slots} {T T2 : Store} {as zs : List D} (h : Ok w d s e) (e1 : ga ρ S = .ok (as, T)) (e2 : gk ρ T = .ok (zs, T2)) (hn : as.length = n) (hj : zs.length = j)
    (hp : pick plan (.ref T2.length :: as ++ zs ++ dds) = [.ref T2.length, .int w, .int d, .str s, .str e]) : eMakeP 0 n j f_Housezz_initzz dds plan 5 ga gk ρ S = .ok (hD w d s e, T2) := by
  unfold eMakeP
  simp only [e1, e2, Res.bind, hp, init_ok h rfl]
  rw [if_pos (by simp [hn, hj])]
  exact leave_h rfl
theorem house_t (h : Ok w d s e) : f__law_house [.tup [.int w, .int d, .str s, .str e]] S = .ok (hD w d s e, S) := by
  simp only [f__law_house, b__law_house, eVar, eC, eBin, eBinR, eB, eTru, eNotT, eOrT, eAndT, eNot, eAnd, eOr, eIf, sSeq, sSet, sIf, sRet, sRetN, sExpr, sNil, sPar, sPar3, sAsg, sAsq, gTu, gCn, gN, gNl, qTu, qCn, qN, qNl, qSub, aCons, aNil, aApp, eTup, eLst, eCel, ofO, ofP, Res.bind, Res.out, Res.bind0, eCb, f1, f2, eCallP, eSl, eSlS, pNone, pSome, sSub, eFld, fnD, fnDC, startD, pick, eChain, eIsi, eProp, noX, eMt, eM0, sFor, iSeq, iRange1, iRange2, eDct0, onlyS, onlyB, addD_int, subD_int, ltD_int, gtD_int, leD_int, geD_int, ixD_tup, ixD_lst, ixD_scr, atI_0, atI_1, atI_2, atI_3, atI_4, atI_5, atI_6, atI_7, atI_8, toIntD_int, truD_bl, List.getElem?_cons_zero, List.getElem?_cons_succ, List.getElem?_nil, List.set_cons_zero, List.set_cons_succ, List.length_cons, List.length_nil, List.map_cons, List.map_nil, List.replicate, List.append_nil, List.nil_append, List.cons_append, List.filterMap_cons, List.filterMap_nil, Nat.sub_self, Nat.zero_add, Nat.reduceAdd, Nat.reduceSub, Option.map_some, Option.map_none, if_true, if_false, ite_true, ite_false, reduceIte, Bool.false_eq_true, Nat.reduceLeDiff, Nat.reduceLT, Int.reduceLE, Int.reduceLT, Int.reduceEq, Nat.reduceBEq, Nat.reduceEqDiff, beq_self_eq_true, Bool.and_self, Bool.and_true, Bool.true_and, Bool.not_true, Bool.not_false, Bool.or_true, Bool.true_or, Bool.false_or, Bool.or_false, Bool.and_false, Bool.false_and, decide_true, decide_false, dunE, fldsD_int, fldsD_str, fldsD_bl, fldsD_non, fldsD_lst, fldsD_tup, fldsD_scr, fldsD_dct, fldsD_ins, kdD_int, kdD_str, kdD_bl, kdD_non, kdD_lst, kdD_tup, kdD_scr, kdD_dct, kdD_ins, lenF_scr, lenF_lst, lenF_tup, listF_lst, listF_tup, listC_lst, listC_tup, tupleF_lst, tupleF_tup, eqD_int, eqD_bl, neD_int, isN_non, isN_int, isN_tup, strD_str, isT_lst, isT_str, seqL_lst, seqA_lst, seqA_tup, slD_lst, slD_tup, List.lookup, List.find?, eJs_nil, eJs_cons, eFmt_eq, sempty_app, eCmP, eMakeP, eMakeL, sFldD, Nat.reduceEqDiff, eqO, neO, bltD, Option.isSome_some, and_self, bne_self_eq_false, Bool.bne_false, Bool.bne_true, Bool.true_bne, Bool.false_bne, init_ok h rfl, leave_h rfl]
  exact leave_id
theorem house_l (h : Ok w d s e) : f__law_house [.lst [.int w, .int d, .str s, .str e]] S = .ok (hD w d s e, S) := by
  simp only [f__law_house, b__law_house, eVar, eC, eBin, eBinR, eB, eTru, eNotT, eOrT, eAndT, eNot, eAnd, eOr, eIf, sSeq, sSet, sIf, sRet, sRetN, sExpr, sNil, sPar, sPar3, sAsg, sAsq, gTu, gCn, gN, gNl, qTu, qCn, qN, qNl, qSub, aCons, aNil, aApp, eTup, eLst, eCel, ofO, ofP, Res.bind, Res.out, Res.bind0, eCb, f1, f2, eCallP, eSl, eSlS, pNone, pSome, sSub, eFld, fnD, fnDC, startD, pick, eChain, eIsi, eProp, noX, eMt, eM0, sFor, iSeq, iRange1, iRange2, eDct0, onlyS, onlyB, addD_int, subD_int, ltD_int, gtD_int, leD_int, geD_int, ixD_tup, ixD_lst, ixD_scr, atI_0, atI_1, atI_2, atI_3, atI_4, atI_5, atI_6, atI_7, atI_8, toIntD_int, truD_bl, List.getElem?_cons_zero, List.getElem?_cons_succ, List.getElem?_nil, List.set_cons_zero, List.set_cons_succ, List.length_cons, List.length_nil, List.map_cons, List.map_nil, List.replicate, List.append_nil, List.nil_append, List.cons_append, List.filterMap_cons, List.filterMap_nil, Nat.sub_self, Nat.zero_add, Nat.reduceAdd, Nat.reduceSub, Option.map_some, Option.map_none, if_true, if_false, ite_true, ite_false, reduceIte, Bool.false_eq_true, Nat.reduceLeDiff, Nat.reduceLT, Int.reduceLE, Int.reduceLT, Int.reduceEq, Nat.reduceBEq, Nat.reduceEqDiff, beq_self_eq_true, Bool.and_self, Bool.and_true, Bool.true_and, Bool.not_true, Bool.not_false, Bool.or_true, Bool.true_or, Bool.false_or, Bool.or_false, Bool.and_false, Bool.false_and, decide_true, decide_false, dunE, fldsD_int, fldsD_str, fldsD_bl, fldsD_non, fldsD_lst, fldsD_tup, fldsD_scr, fldsD_dct, fldsD_ins, kdD_int, kdD_str, kdD_bl, kdD_non, kdD_lst, kdD_tup, kdD_scr, kdD_dct, kdD_ins, lenF_scr, lenF_lst, lenF_tup, listF_lst, listF_tup, listC_lst, listC_tup, tupleF_lst, tupleF_tup, eqD_int, eqD_bl, neD_int, isN_non, isN_int, isN_tup, strD_str, isT_lst, isT_str, seqL_lst, seqA_lst, seqA_tup, slD_lst, slD_tup, List.lookup, List.find?, eJs_nil, eJs_cons, eFmt_eq, sempty_app, eCmP, eMakeP, eMakeL, sFldD, Nat.reduceEqDiff, eqO, neO, bltD, Option.isSome_some, and_self, bne_self_eq_false, Bool.bne_false, Bool.bne_true, Bool.true_bne, Bool.false_bne, init_ok h rfl, leave_h rfl]
  exact leave_id
theorem fldsD_hD : fldsD S (hD w d s e) = some (0, fsH w d s e) := rfl
theorem kdD_hD : kdD S (hD w d s e) = some (.ins 0) := rfl
theorem heq_ok {w' d' : Int} {s' e' : Str} (h : Ok w d s e) (h' : Ok w' d' s' e') : f_Housezz_eqzz [hD w d s e, hD w' d' s' e'] S = .ok (.bl (decide (w = w' ∧ d = d' ∧ s = s' ∧ e = e')), S) := by
  have q1 := eqD_str (S := S) h.s.ok h'.s.ok
  have q2 := eqD_str (S := S) h.e.ok h'.e.ok
  by_cases h1 : w = w'
  · by_cases h2 : d = d'
    · by_cases h3 : s = s'
      · by_cases h4 : e = e'
        · subst h1 h2 h3 h4
          simp only [f_Housezz_eqzz, b_Housezz_eqzz, eVar, eC, eBin, eBinR, eB, eTru, eNotT, eOrT, eAndT, eNot, eAnd, eOr, eIf, sSeq, sSet, sIf, sRet, sRetN, sExpr, sNil, sPar, sPar3, sAsg, sAsq, gTu, gCn, gN, gNl, qTu, qCn, qN, qNl, qSub, aCons, aNil, aApp, eTup, eLst, eCel, ofO, ofP, Res.bind, Res.out, Res.bind0, eCb, f1, f2, eCallP, eSl, eSlS, pNone, pSome, sSub, eFld, fnD, fnDC, startD, pick, eChain, eIsi, eProp, noX, eMt, eM0, sFor, iSeq, iRange1, iRange2, eDct0, onlyS, onlyB, addD_int, subD_int, ltD_int, gtD_int, leD_int, geD_int, ixD_tup, ixD_lst, ixD_scr, atI_0, atI_1, atI_2, atI_3, atI_4, atI_5, atI_6, atI_7, atI_8, toIntD_int, truD_bl, List.getElem?_cons_zero, List.getElem?_cons_succ, List.getElem?_nil, List.set_cons_zero, List.set_cons_succ, List.length_cons, List.length_nil, List.map_cons, List.map_nil, List.replicate, List.append_nil, List.nil_append, List.cons_append, List.filterMap_cons, List.filterMap_nil, Nat.sub_self, Nat.zero_add, Nat.reduceAdd, Nat.reduceSub, Option.map_some, Option.map_none, if_true, if_false, ite_true, ite_false, reduceIte, Bool.false_eq_true, Nat.reduceLeDiff, Nat.reduceLT, Int.reduceLE, Int.reduceLT, Int.reduceEq, Nat.reduceBEq, Nat.reduceEqDiff, beq_self_eq_true, Bool.and_self, Bool.and_true, Bool.true_and, Bool.not_true, Bool.not_false, Bool.or_true, Bool.true_or, Bool.false_or, Bool.or_false, Bool.and_false, Bool.false_and, decide_true, decide_false, dunE, fldsD_int, fldsD_str, fldsD_bl, fldsD_non, fldsD_lst, fldsD_tup, fldsD_scr, fldsD_dct, fldsD_ins, kdD_int, kdD_str, kdD_bl, kdD_non, kdD_lst, kdD_tup, kdD_scr, kdD_dct, kdD_ins, lenF_scr, lenF_lst, lenF_tup, listF_lst, listF_tup, listC_lst, listC_tup, tupleF_lst, tupleF_tup, eqD_int, eqD_bl, neD_int, isN_non, isN_int, isN_tup, strD_str, isT_lst, isT_str, seqL_lst, seqA_lst, seqA_tup, slD_lst, slD_tup, List.lookup, List.find?, eJs_nil, eJs_cons, eFmt_eq, sempty_app, eCmP, eMakeP, eMakeL, sFldD, Nat.reduceEqDiff, eqO, neO, bltD, Option.isSome_some, and_self, bne_self_eq_false, Bool.bne_false, Bool.bne_true, Bool.true_bne, Bool.false_bne, tab_House, hD, fsH, q1, q2, beq_self_eq_true, and_self]
          exact leave_id
        · rw [show decide (w = w' ∧ d = d' ∧ s = s' ∧ e = e') = false from decide_eq_false fun q => h4 q.2.2.2]
          subst h1 h2 h3
          simp only [f_Housezz_eqzz, b_Housezz_eqzz, eVar, eC, eBin, eBinR, eB, eTru, eNotT, eOrT, eAndT, eNot, eAnd, eOr, eIf, sSeq, sSet, sIf, sRet, sRetN, sExpr, sNil, sPar, sPar3, sAsg, sAsq, gTu, gCn, gN, gNl, qTu, qCn, qN, qNl, qSub, aCons, aNil, aApp, eTup, eLst, eCel, ofO, ofP, Res.bind, Res.out, Res.bind0, eCb, f1, f2, eCallP, eSl, eSlS, pNone, pSome, sSub, eFld, fnD, fnDC, startD, pick, eChain, eIsi, eProp, noX, eMt, eM0, sFor, iSeq, iRange1, iRange2, eDct0, onlyS, onlyB, addD_int, subD_int, ltD_int, gtD_int, leD_int, geD_int, ixD_tup, ixD_lst, ixD_scr, atI_0, atI_1, atI_2, atI_3, atI_4, atI_5, atI_6, atI_7, atI_8, toIntD_int, truD_bl, List.getElem?_cons_zero, List.getElem?_cons_succ, List.getElem?_nil, List.set_cons_zero, List.set_cons_succ, List.length_cons, List.length_nil, List.map_cons, List.map_nil, List.replicate, List.append_nil, List.nil_append, List.cons_append, List.filterMap_cons, List.filterMap_nil, Nat.sub_self, Nat.zero_add, Nat.reduceAdd, Nat.reduceSub, Option.map_some, Option.map_none, if_true, if_false, ite_true, ite_false, reduceIte, Bool.false_eq_true, Nat.reduceLeDiff, Nat.reduceLT, Int.reduceLE, Int.reduceLT, Int.reduceEq, Nat.reduceBEq, Nat.reduceEqDiff, beq_self_eq_true, Bool.and_self, Bool.and_true, Bool.true_and, Bool.not_true, Bool.not_false, Bool.or_true, Bool.true_or, Bool.false_or, Bool.or_false, Bool.and_false, Bool.false_and, decide_true, decide_false, dunE, fldsD_int, fldsD_str, fldsD_bl, fldsD_non, fldsD_lst, fldsD_tup, fldsD_scr, fldsD_dct, fldsD_ins, kdD_int, kdD_str, kdD_bl, kdD_non, kdD_lst, kdD_tup, kdD_scr, kdD_dct, kdD_ins, lenF_scr, lenF_lst, lenF_tup, listF_lst, listF_tup, listC_lst, listC_tup, tupleF_lst, tupleF_tup, eqD_int, eqD_bl, neD_int, isN_non, isN_int, isN_tup, strD_str, isT_lst, isT_str, seqL_lst, seqA_lst, seqA_tup, slD_lst, slD_tup, List.lookup, List.find?, eJs_nil, eJs_cons, eFmt_eq, sempty_app, eCmP, eMakeP, eMakeL, sFldD, Nat.reduceEqDiff, eqO, neO, bltD, Option.isSome_some, and_self, bne_self_eq_false, Bool.bne_false, Bool.bne_true, Bool.true_bne, Bool.false_bne, tab_House, hD, fsH, q1, q2, beq_self_eq_true, beq_false_of_ne h4]
          exact leave_id
      · rw [show decide (w = w' ∧ d = d' ∧ s = s' ∧ e = e') = false from decide_eq_false fun q => h3 q.2.2.1]
        subst h1 h2
        simp only [f_Housezz_eqzz, b_Housezz_eqzz, eVar, eC, eBin, eBinR, eB, eTru, eNotT, eOrT, eAndT, eNot, eAnd, eOr, eIf, sSeq, sSet, sIf, sRet, sRetN, sExpr, sNil, sPar, sPar3, sAsg, sAsq, gTu, gCn, gN, gNl, qTu, qCn, qN, qNl, qSub, aCons, aNil, aApp, eTup, eLst, eCel, ofO, ofP, Res.bind, Res.out, Res.bind0, eCb, f1, f2, eCallP, eSl, eSlS, pNone, pSome, sSub, eFld, fnD, fnDC, startD, pick, eChain, eIsi, eProp, noX, eMt, eM0, sFor, iSeq, iRange1, iRange2, eDct0, onlyS, onlyB, addD_int, subD_int, ltD_int, gtD_int, leD_int, geD_int, ixD_tup, ixD_lst, ixD_scr, atI_0, atI_1, atI_2, atI_3, atI_4, atI_5, atI_6, atI_7, atI_8, toIntD_int, truD_bl, List.getElem?_cons_zero, List.getElem?_cons_succ, List.getElem?_nil, List.set_cons_zero, List.set_cons_succ, List.length_cons, List.length_nil, List.map_cons, List.map_nil, List.replicate, List.append_nil, List.nil_append, List.cons_append, List.filterMap_cons, List.filterMap_nil, Nat.sub_self, Nat.zero_add, Nat.reduceAdd, Nat.reduceSub, Option.map_some, Option.map_none, if_true, if_false, ite_true, ite_false, reduceIte, Bool.false_eq_true, Nat.reduceLeDiff, Nat.reduceLT, Int.reduceLE, Int.reduceLT, Int.reduceEq, Nat.reduceBEq, Nat.reduceEqDiff, beq_self_eq_true, Bool.and_self, Bool.and_true, Bool.true_and, Bool.not_true, Bool.not_false, Bool.or_true, Bool.true_or, Bool.false_or, Bool.or_false, Bool.and_false, Bool.false_and, decide_true, decide_false, dunE, fldsD_int, fldsD_str, fldsD_bl, fldsD_non, fldsD_lst, fldsD_tup, fldsD_scr, fldsD_dct, fldsD_ins, kdD_int, kdD_str, kdD_bl, kdD_non, kdD_lst, kdD_tup, kdD_scr, kdD_dct, kdD_ins, lenF_scr, lenF_lst, lenF_tup, listF_lst, listF_tup, listC_lst, listC_tup, tupleF_lst, tupleF_tup, eqD_int, eqD_bl, neD_int, isN_non, isN_int, isN_tup, strD_str, isT_lst, isT_str, seqL_lst, seqA_lst, seqA_tup, slD_lst, slD_tup, List.lookup, List.find?, eJs_nil, eJs_cons, eFmt_eq, sempty_app, eCmP, eMakeP, eMakeL, sFldD, Nat.reduceEqDiff, eqO, neO, bltD, Option.isSome_some, and_self, bne_self_eq_false, Bool.bne_false, Bool.bne_true, Bool.true_bne, Bool.false_bne, tab_House, hD, fsH, q1, q2, beq_self_eq_true, beq_false_of_ne h3]
        exact leave_id
    · rw [show decide (w = w' ∧ d = d' ∧ s = s' ∧ e = e') = false from decide_eq_false fun q => h2 q.2.1]
      subst h1
      simp only [f_Housezz_eqzz, b_Housezz_eqzz, eVar, eC, eBin, eBinR, eB, eTru, eNotT, eOrT, eAndT, eNot, eAnd, eOr, eIf, sSeq, sSet, sIf, sRet, sRetN, sExpr, sNil, sPar, sPar3, sAsg, sAsq, gTu, gCn, gN, gNl, qTu, qCn, qN, qNl, qSub, aCons, aNil, aApp, eTup, eLst, eCel, ofO, ofP, Res.bind, Res.out, Res.bind0, eCb, f1, f2, eCallP, eSl, eSlS, pNone, pSome, sSub, eFld, fnD, fnDC, startD, pick, eChain, eIsi, eProp, noX, eMt, eM0, sFor, iSeq, iRange1, iRange2, eDct0, onlyS, onlyB, addD_int, subD_int, ltD_int, gtD_int, leD_int, geD_int, ixD_tup, ixD_lst, ixD_scr, atI_0, atI_1, atI_2, atI_3, atI_4, atI_5, atI_6, atI_7, atI_8, toIntD_int, truD_bl, List.getElem?_cons_zero, List.getElem?_cons_succ, List.getElem?_nil, List.set_cons_zero, List.set_cons_succ, List.length_cons, List.length_nil, List.map_cons, List.map_nil, List.replicate, List.append_nil, List.nil_append, List.cons_append, List.filterMap_cons, List.filterMap_nil, Nat.sub_self, Nat.zero_add, Nat.reduceAdd, Nat.reduceSub, Option.map_some, Option.map_none, if_true, if_false, ite_true, ite_false, reduceIte, Bool.false_eq_true, Nat.reduceLeDiff, Nat.reduceLT, Int.reduceLE, Int.reduceLT, Int.reduceEq, Nat.reduceBEq, Nat.reduceEqDiff, beq_self_eq_true, Bool.and_self, Bool.and_true, Bool.true_and, Bool.not_true, Bool.not_false, Bool.or_true, Bool.true_or, Bool.false_or, Bool.or_false, Bool.and_false, Bool.false_and, decide_true, decide_false, dunE, fldsD_int, fldsD_str, fldsD_bl, fldsD_non, fldsD_lst, fldsD_tup, fldsD_scr, fldsD_dct, fldsD_ins, kdD_int, kdD_str, kdD_bl, kdD_non, kdD_lst, kdD_tup, kdD_scr, kdD_dct, kdD_ins, lenF_scr, lenF_lst, lenF_tup, listF_lst, listF_tup, listC_lst, listC_tup, tupleF_lst, tupleF_tup, eqD_int, eqD_bl, neD_int, isN_non, isN_int, isN_tup, strD_str, isT_lst, isT_str, seqL_lst, seqA_lst, seqA_tup, slD_lst, slD_tup, List.lookup, List.find?, eJs_nil, eJs_cons, eFmt_eq, sempty_app, eCmP, eMakeP, eMakeL, sFldD, Nat.reduceEqDiff, eqO, neO, bltD, Option.isSome_some, and_self, bne_self_eq_false, Bool.bne_false, Bool.bne_true, Bool.true_bne, Bool.false_bne, tab_House, hD, fsH, q1, q2, beq_self_eq_true, beq_false_of_ne h2]
      exact leave_id
  · rw [show decide (w = w' ∧ d = d' ∧ s = s' ∧ e = e') = false from decide_eq_false fun q => h1 q.1]
    simp only [f_Housezz_eqzz, b_Housezz_eqzz, eVar, eC, eBin, eBinR, eB, eTru, eNotT, eOrT, eAndT, eNot, eAnd, eOr, eIf, sSeq, sSet, sIf, sRet, sRetN, sExpr, sNil, sPar, sPar3, sAsg, sAsq, gTu, gCn, gN, gNl, qTu, qCn, qN, qNl, qSub, aCons, aNil, aApp, eTup, eLst, eCel, ofO, ofP, Res.bind, Res.out, Res.bind0, eCb, f1, f2, eCallP, eSl, eSlS, pNone, pSome, sSub, eFld, fnD, fnDC, startD, pick, eChain, eIsi, eProp, noX, eMt, eM0, sFor, iSeq, iRange1, iRange2, eDct0, onlyS, onlyB, addD_int, subD_int, ltD_int, gtD_int, leD_int, geD_int, ixD_tup, ixD_lst, ixD_scr, atI_0, atI_1, atI_2, atI_3, atI_4, atI_5, atI_6, atI_7, atI_8, toIntD_int, truD_bl, List.getElem?_cons_zero, List.getElem?_cons_succ, List.getElem?_nil, List.set_cons_zero, List.set_cons_succ, List.length_cons, List.length_nil, List.map_cons, List.map_nil, List.replicate, List.append_nil, List.nil_append, List.cons_append, List.filterMap_cons, List.filterMap_nil, Nat.sub_self, Nat.zero_add, Nat.reduceAdd, Nat.reduceSub, Option.map_some, Option.map_none, if_true, if_false, ite_true, ite_false, reduceIte, Bool.false_eq_true, Nat.reduceLeDiff, Nat.reduceLT, Int.reduceLE, Int.reduceLT, Int.reduceEq, Nat.reduceBEq, Nat.reduceEqDiff, beq_self_eq_true, Bool.and_self, Bool.and_true, Bool.true_and, Bool.not_true, Bool.not_false, Bool.or_true, Bool.true_or, Bool.false_or, Bool.or_false, Bool.and_false, Bool.false_and, decide_true, decide_false, dunE, fldsD_int, fldsD_str, fldsD_bl, fldsD_non, fldsD_lst, fldsD_tup, fldsD_scr, fldsD_dct, fldsD_ins, kdD_int, kdD_str, kdD_bl, kdD_non, kdD_lst, kdD_tup, kdD_scr, kdD_dct, kdD_ins, lenF_scr, lenF_lst, lenF_tup, listF_lst, listF_tup, listC_lst, listC_tup, tupleF_lst, tupleF_tup, eqD_int, eqD_bl, neD_int, isN_non, isN_int, isN_tup, strD_str, isT_lst, isT_str, seqL_lst, seqA_lst, seqA_tup, slD_lst, slD_tup, List.lookup, List.find?, eJs_nil, eJs_cons, eFmt_eq, sempty_app, eCmP, eMakeP, eMakeL, sFldD, Nat.reduceEqDiff, eqO, neO, bltD, Option.isSome_some, and_self, bne_self_eq_false, Bool.bne_false, Bool.bne_true, Bool.true_bne, Bool.false_bne, tab_House, hD, fsH, q1, q2, beq_self_eq_true, beq_false_of_ne h1]
    exact leave_id
theorem heq_other {x : D} {k : Kd} (hk : kdD S x = some k) (ht : tab_House k = some false) : f_Housezz_eqzz [hD w d s e, x] S = .ok (.bl false, S) := by
  simp only [f_Housezz_eqzz, b_Housezz_eqzz, eVar, eC, eBin, eBinR, eB, eTru, eNotT, eOrT, eAndT, eNot, eAnd, eOr, eIf, sSeq, sSet, sIf, sRet, sRetN, sExpr, sNil, sPar, sPar3, sAsg, sAsq, gTu, gCn, gN, gNl, qTu, qCn, qN, qNl, qSub, aCons, aNil, aApp, eTup, eLst, eCel, ofO, ofP, Res.bind, Res.out, Res.bind0, eCb, f1, f2, eCallP, eSl, eSlS, pNone, pSome, sSub, eFld, fnD, fnDC, startD, pick, eChain, eIsi, eProp, noX, eMt, eM0, sFor, iSeq, iRange1, iRange2, eDct0, onlyS, onlyB, addD_int, subD_int, ltD_int, gtD_int, leD_int, geD_int, ixD_tup, ixD_lst, ixD_scr, atI_0, atI_1, atI_2, atI_3, atI_4, atI_5, atI_6, atI_7, atI_8, toIntD_int, truD_bl, List.getElem?_cons_zero, List.getElem?_cons_succ, List.getElem?_nil, List.set_cons_zero, List.set_cons_succ, List.length_cons, List.length_nil, List.map_cons, List.map_nil, List.replicate, List.append_nil, List.nil_append, List.cons_append, List.filterMap_cons, List.filterMap_nil, Nat.sub_self, Nat.zero_add, Nat.reduceAdd, Nat.reduceSub, Option.map_some, Option.map_none, if_true, if_false, ite_true, ite_false, reduceIte, Bool.false_eq_true, Nat.reduceLeDiff, Nat.reduceLT, Int.reduceLE, Int.reduceLT, Int.reduceEq, Nat.reduceBEq, Nat.reduceEqDiff, beq_self_eq_true, Bool.and_self, Bool.and_true, Bool.true_and, Bool.not_true, Bool.not_false, Bool.or_true, Bool.true_or, Bool.false_or, Bool.or_false, Bool.and_false, Bool.false_and, decide_true, decide_false, dunE, fldsD_int, fldsD_str, fldsD_bl, fldsD_non, fldsD_lst, fldsD_tup, fldsD_scr, fldsD_dct, fldsD_ins, kdD_int, kdD_str, kdD_bl, kdD_non, kdD_lst, kdD_tup, kdD_scr, kdD_dct, kdD_ins, lenF_scr, lenF_lst, lenF_tup, listF_lst, listF_tup, listC_lst, listC_tup, tupleF_lst, tupleF_tup, eqD_int, eqD_bl, neD_int, isN_non, isN_int, isN_tup, strD_str, isT_lst, isT_str, seqL_lst, seqA_lst, seqA_tup, slD_lst, slD_tup, List.lookup, List.find?, eJs_nil, eJs_cons, eFmt_eq, sempty_app, eCmP, eMakeP, eMakeL, sFldD, Nat.reduceEqDiff, eqO, neO, bltD, Option.isSome_some, and_self, bne_self_eq_false, Bool.bne_false, Bool.bne_true, Bool.true_bne, Bool.false_bne, hk, ht]
  exact leave_id
end
end K05
end
section
namespace K05
open PySem PySem.Spec PyProof.Rows L2 Pd
/-! ### names, lots -/
def signs36 : Str := "abcdefghijklmnopqrstuvwxyz0123456789"
theorem signs36_tl : TL.tl signs36 = (List.range 26).map (· + 97) ++ (List.range 10).map (· + 48) := by decide +kernel
theorem low_mem {c : Nat} (h : LowC c) : c ∈ TL.tl letters := by
  rw [letters_tl, List.mem_map]
  exact ⟨c - 97, by rw [List.mem_range]; have := h.1; have := h.2; omega, by have := h.1; omega⟩
theorem al_mem {c : Nat} (h : AlC c) : c ∈ TL.tl signs36 := by
  rw [signs36_tl, List.mem_append, List.mem_map, List.mem_map]
  rcases h with ⟨h1, h2⟩ | ⟨h1, h2⟩
  · exact .inl ⟨c - 97, by rw [List.mem_range]; omega, by omega⟩
  · exact .inr ⟨c - 48, by rw [List.mem_range]; omega, by omega⟩
theorem in_sign {S : Store} {c : Nat} {z : Str} (h : c ∈ TL.tl z) : inD S (.str ⟨#[c]⟩) (.str z) = some (.bl true) := by
  have e : inB S (.str ⟨#[c]⟩) (.str z) = some (decide (c ∈ z.cps.toList)) := rfl
  simp only [inD, e, Option.map_some]
  rw [decide_eq_true (show c ∈ z.cps.toList from h)]
theorem bls_all : ∀ n : Nat, blsD (List.replicate n (.bl true)) = some (List.replicate n true)
  | 0 => rfl
  | n + 1 => by simp only [List.replicate_succ, blsD, bls_all n, Option.map_some]
theorem allF_rep {S : Store} {n : Nat} : allF S [.lst (List.replicate n (.bl true))] = some (.bl true, S) := by
  simp only [allF, seqL, Option.bind_some, bls_all, Option.map_some]
  have : (List.replicate n true).all id = true := by simp
  rw [this]
/-- a comprehension of tests that all hold -/
theorem lc_true {fi : EvI} {vs : List Nat} {g : Tg} {te : EvE} {ρ : Slots} {S : Store} {xs : List D} (e : fi ρ S = .ok (xs, S)) (hl : xs.length ≤ 16777216) (h : ∀ (i : Nat) x, xs[i]? = some x → ∃ ρ1, g x (wipeD ρ vs) = some ρ1 ∧ te ρ1 S = .ok (.bl true, S)) :
    eLc fi vs g eYes te ρ S = .ok (.lst (List.replicate xs.length (.bl true)), S) := by
  obtain ⟨ds, S', el, rfl, rfl⟩ := lc_inv (g := g) (tt := eYes) (te := te) (ρ := wipeD ρ vs) (fun i acc Z => acc = List.replicate i (.bl true) ∧ Z = S) (xs := xs) (acc := []) (k := 0) (S := S) (by simpa using hl) ⟨rfl, rfl⟩ (by
    rintro i x acc Z hx ⟨rfl, rfl⟩
    obtain ⟨ρ1, e1, e2⟩ := h i x hx
    refine ⟨ρ1, e1, true, Z, rfl, .inl ⟨rfl, .bl true, Z, e2, ?_, rfl⟩⟩
    rw [Nat.zero_add, List.replicate_succ']
  )
  rw [eLc_eq e el, Nat.zero_add]
def nmB (L M : Str) : EvS :=
    (sSeq (sIf (eOrT (eNotT (eTru (eIsi tab_str (eVar 0)))) (eNotT (eB (eChain leD leD (eC (.int 1)) (eCb lenF (aCons (eVar 0) aNil)) (eC (.int 8)))))) (sRet (eC (.bl false))) sNil)
    (sRet (eAnd (eBin inD (eBin ixD (eVar 0) (eC (.int 0))) (eC (.str L))) (eCb allF (aCons (eLc (iSeq (eVar 0)) [1] (gN 1) eYes (eBin inD (eVar 1) (eC (.str M)))) aNil)))))
theorem name_eq : f_is_name = fnD 2 (nmB letters signs36) := rfl
theorem is_name_ok {S : Store} {s : Str} (h : NameS s) : f_is_name [.str s] S = .ok (.bl true, S) := by
  have hl := h.len
  obtain ⟨c, r, e, hr, hc, ha⟩ := h
  rw [name_eq]
  have m1 := low_mem hc
  have m2 : ∀ d ∈ TL.tl s, d ∈ TL.tl signs36 := fun d hd => by
    rw [e] at hd
    rcases List.mem_cons.mp hd with rfl | hd
    · exact al_mem (.inl hc)
    · exact al_mem (ha d hd)
  generalize letters = L at m1
  generalize signs36 = M at m2
  have i1 : ixD S (.str s) (.int 0) = some (.str ⟨#[c]⟩) := by
    rw [ixD_str (by omega), e, atI_0]
    rfl
  have i2 := in_sign (S := S) m1
  have ln : lenF S [.str s] = some (.int s.length, S) := lenF_str (by rw [show sizeLine = 16777216 from rfl]; omega)
  have d1 : decide ((1 : Int) ≤ (s.length : Int)) = true := decide_eq_true (by omega)
  have d2 : decide ((s.length : Int) ≤ 8) = true := decide_eq_true (by omega)
  have el : eLc (iSeq (eVar 0)) [1] (gN 1) eYes (eBin inD (eVar 1) (eC (.str M))) [some (.str s), none] S = .ok (.lst (List.replicate (s.cps.toList.map fun c => D.str ⟨#[c]⟩).length (.bl true)), S) := by
    refine lc_true (xs := s.cps.toList.map fun c => D.str ⟨#[c]⟩) rfl ?_ fun i x hx => ?_
    · have : s.cps.toList.length = s.length := by simp [Str.length]
      rw [List.length_map]; omega
    · rw [List.getElem?_map] at hx
      obtain ⟨d, hd, rfl⟩ := Option.map_eq_some_iff.mp hx
      have := in_sign (S := S) (m2 d (List.mem_of_getElem? hd))
      refine ⟨_, rfl, ?_⟩
      simp only [eVar, eC, eBin, eBinR, eB, eTru, eNotT, eOrT, eAndT, eNot, eAnd, eOr, eIf, sSeq, sSet, sIf, sRet, sRetN, sExpr, sNil, sPar, sPar3, sAsg, sAsq, gTu, gCn, gN, gNl, qTu, qCn, qN, qNl, qSub, aCons, aNil, aApp, eTup, eLst, eCel, ofO, ofP, Res.bind, Res.out, Res.bind0, eCb, f1, f2, eCallP, eSl, eSlS, pNone, pSome, sSub, eFld, fnD, fnDC, startD, pick, eChain, eIsi, eProp, noX, eMt, eM0, sFor, iSeq, iRange1, iRange2, eDct0, onlyS, onlyB, addD_int, subD_int, ltD_int, gtD_int, leD_int, geD_int, ixD_tup, ixD_lst, ixD_scr, atI_0, atI_1, atI_2, atI_3, atI_4, atI_5, atI_6, atI_7, atI_8, toIntD_int, truD_bl, List.getElem?_cons_zero, List.getElem?_cons_succ, List.getElem?_nil, List.set_cons_zero, List.set_cons_succ, List.length_cons, List.length_nil, List.map_cons, List.map_nil, List.replicate, List.append_nil, List.nil_append, List.cons_append, List.filterMap_cons, List.filterMap_nil, Nat.sub_self, Nat.zero_add, Nat.reduceAdd, Nat.reduceSub, Option.map_some, Option.map_none, if_true, if_false, ite_true, ite_false, reduceIte, Bool.false_eq_true, Nat.reduceLeDiff, Nat.reduceLT, Int.reduceLE, Int.reduceLT, Int.reduceEq, Nat.reduceBEq, Nat.reduceEqDiff, beq_self_eq_true, Bool.and_self, Bool.and_true, Bool.true_and, Bool.not_true, Bool.not_false, Bool.or_true, Bool.true_or, Bool.false_or, Bool.or_false, Bool.and_false, Bool.false_and, decide_true, decide_false, wipeD, this]
  simp only [nmB, eVar, eC, eBin, eBinR, eB, eTru, eNotT, eOrT, eAndT, eNot, eAnd, eOr, eIf, sSeq, sSet, sIf, sRet, sRetN, sExpr, sNil, sPar, sPar3, sAsg, sAsq, gTu, gCn, gN, gNl, qTu, qCn, qN, qNl, qSub, aCons, aNil, aApp, eTup, eLst, eCel, ofO, ofP, Res.bind, Res.out, Res.bind0, eCb, f1, f2, eCallP, eSl, eSlS, pNone, pSome, sSub, eFld, fnD, fnDC, startD, pick, eChain, eIsi, eProp, noX, eMt, eM0, sFor, iSeq, iRange1, iRange2, eDct0, onlyS, onlyB, addD_int, subD_int, ltD_int, gtD_int, leD_int, geD_int, ixD_tup, ixD_lst, ixD_scr, atI_0, atI_1, atI_2, atI_3, atI_4, atI_5, atI_6, atI_7, atI_8, toIntD_int, truD_bl, List.getElem?_cons_zero, List.getElem?_cons_succ, List.getElem?_nil, List.set_cons_zero, List.set_cons_succ, List.length_cons, List.length_nil, List.map_cons, List.map_nil, List.replicate, List.append_nil, List.nil_append, List.cons_append, List.filterMap_cons, List.filterMap_nil, Nat.sub_self, Nat.zero_add, Nat.reduceAdd, Nat.reduceSub, Option.map_some, Option.map_none, if_true, if_false, ite_true, ite_false, reduceIte, Bool.false_eq_true, Nat.reduceLeDiff, Nat.reduceLT, Int.reduceLE, Int.reduceLT, Int.reduceEq, Nat.reduceBEq, Nat.reduceEqDiff, beq_self_eq_true, Bool.and_self, Bool.and_true, Bool.true_and, Bool.not_true, Bool.not_false, Bool.or_true, Bool.true_or, Bool.false_or, Bool.or_false, Bool.and_false, Bool.false_and, decide_true, decide_false, dunE, fldsD_int, fldsD_str, fldsD_bl, fldsD_non, fldsD_lst, fldsD_tup, fldsD_scr, fldsD_dct, fldsD_ins, kdD_int, kdD_str, kdD_bl, kdD_non, kdD_lst, kdD_tup, kdD_scr, kdD_dct, kdD_ins, lenF_scr, lenF_lst, lenF_tup, listF_lst, listF_tup, listC_lst, listC_tup, tupleF_lst, tupleF_tup, eqD_int, eqD_bl, neD_int, isN_non, isN_int, isN_tup, strD_str, isT_lst, isT_str, seqL_lst, seqA_lst, seqA_tup, slD_lst, slD_tup, List.lookup, List.find?, eJs_nil, eJs_cons, eFmt_eq, sempty_app, eCmP, eMakeP, eMakeL, sFldD, Nat.reduceEqDiff, eqO, neO, bltD, Option.isSome_some, and_self, bne_self_eq_false, Bool.bne_false, Bool.bne_true, Bool.true_bne, Bool.false_bne, tab_str, ln, d1, d2, i1, i2, el, allF_rep]
  exact leave_id
structure LotN (ls : List Str) : Prop where
  ne : ls ≠ []
  four : ls.length ≤ 4
  asc : ls.Pairwise fun a b => ltS a b = true
  nm : ∀ k ∈ ls, NameS k
theorem ltS_of {a b : Str} (h : leS a b = true) (n : a ≠ b) : ltS a b = true := by
  unfold ltS
  rw [← ltCps_eq]
  cases q : ltCps a.cps.toList b.cps.toList with
  | true => rfl
  | false =>
    have : leS b a = true := by simp [leS, q]
    exact absurd (leS_anti a b h this) n
theorem lotN_of {ks ls : List Str} (h : LotOk ks ls) (hk : ∀ k ∈ ks, NameS k) : LotN ls :=
  ⟨h.ne, h.four, (h.asc.and (List.nodup_iff_pairwise_ne.mp h.nd)).imp fun q => ltS_of q.1 q.2, fun k m => hk k (h.of k m)⟩
def ltB (fN : FD) : EvS :=
    (sSeq (sIf (eOrT (eNotT (eTru (eIsi tab_tuple (eVar 0)))) (eNotT (eB (eChain leD leD (eC (.int 1)) (eCb lenF (aCons (eVar 0) aNil)) (eC (.int 4)))))) (sRet (eC (.bl false))) sNil)
    (sSeq (sIf (eNotT (eTru (eCb allF (aCons (eLc (iSeq (eVar 0)) [1] (gN 1) eYes (eCallP 1 0 fN [] [0] 1 (aCons (eVar 1) aNil) aNil)) aNil)))) (sRet (eC (.bl false))) sNil)
    (sRet (eCb allF (aCons (eLc (iRange2 (aCons (eC (.int 1)) (aCons (eCb lenF (aCons (eVar 0) aNil)) aNil))) [2] (gN 2) eYes (eBin ltD (eBin ixD (eVar 0) (eBin subD (eVar 2) (eC (.int 1)))) (eBin ixD (eVar 0) (eVar 2)))) aNil)))))
theorem is_lot_eq : f_is_lot = fnD 3 (ltB f_is_name) := rfl
theorem lot_e1 {S : Store} {ls : List Str} {fN : FD} (h4 : ls.length ≤ 4) (hN : ∀ k ∈ ls, fN [.str k] S = .ok (.bl true, S)) : eLc (iSeq (eVar 0)) [1] (gN 1) eYes (eCallP 1 0 fN [] [0] 1 (aCons (eVar 1) aNil) aNil) [some (.tup (ls.map .str)), none, none] S = .ok (.lst (List.replicate (ls.map D.str).length (.bl true)), S) := by
  refine lc_true (xs := ls.map .str) rfl (by simp; omega) fun i x hx => ?_
  rw [List.getElem?_map] at hx
  obtain ⟨k, hk, rfl⟩ := Option.map_eq_some_iff.mp hx
  have := hN k (List.mem_of_getElem? hk)
  refine ⟨_, rfl, ?_⟩
  simp only [eVar, eC, eBin, eBinR, eB, eTru, eNotT, eOrT, eAndT, eNot, eAnd, eOr, eIf, sSeq, sSet, sIf, sRet, sRetN, sExpr, sNil, sPar, sPar3, sAsg, sAsq, gTu, gCn, gN, gNl, qTu, qCn, qN, qNl, qSub, aCons, aNil, aApp, eTup, eLst, eCel, ofO, ofP, Res.bind, Res.out, Res.bind0, eCb, f1, f2, eCallP, eSl, eSlS, pNone, pSome, sSub, eFld, fnD, fnDC, startD, pick, eChain, eIsi, eProp, noX, eMt, eM0, sFor, iSeq, iRange1, iRange2, eDct0, onlyS, onlyB, addD_int, subD_int, ltD_int, gtD_int, leD_int, geD_int, ixD_tup, ixD_lst, ixD_scr, atI_0, atI_1, atI_2, atI_3, atI_4, atI_5, atI_6, atI_7, atI_8, toIntD_int, truD_bl, List.getElem?_cons_zero, List.getElem?_cons_succ, List.getElem?_nil, List.set_cons_zero, List.set_cons_succ, List.length_cons, List.length_nil, List.map_cons, List.map_nil, List.replicate, List.append_nil, List.nil_append, List.cons_append, List.filterMap_cons, List.filterMap_nil, Nat.sub_self, Nat.zero_add, Nat.reduceAdd, Nat.reduceSub, Option.map_some, Option.map_none, if_true, if_false, ite_true, ite_false, reduceIte, Bool.false_eq_true, Nat.reduceLeDiff, Nat.reduceLT, Int.reduceLE, Int.reduceLT, Int.reduceEq, Nat.reduceBEq, Nat.reduceEqDiff, beq_self_eq_true, Bool.and_self, Bool.and_true, Bool.true_and, Bool.not_true, Bool.not_false, Bool.or_true, Bool.true_or, Bool.false_or, Bool.or_false, Bool.and_false, Bool.false_and, decide_true, decide_false, wipeD, this]
theorem range2_len {n : Nat} {S : Store} {ρ : Slots} {f : EvA} (hn : n ≤ 1000) (e : f ρ S = .ok ([.int 1, .int (n : Nat)], S)) : iRange2 f ρ S = .ok (rangeD 1 (n - 1), S) := by
  have o1 : rOk 1 = true := rOk_small (by omega) (by omega)
  have o2 : rOk (n : Int) = true := rOk_small (by omega) (by omega)
  simp only [iRange2, e, Res.bind, o1, o2, Bool.and_self, if_true]
  rw [show ((n : Int) - 1).toNat = n - 1 by omega]
theorem lot_r2 {S : Store} {ls : List Str} (h4 : ls.length ≤ 4) : iRange2 (aCons (eC (.int 1)) (aCons (eCb lenF (aCons (eVar 0) aNil)) aNil)) [some (.tup (ls.map .str)), none, none] S = .ok (rangeD 1 ((ls.map D.str).length - 1), S) :=
  range2_len (n := (ls.map D.str).length) (by rw [List.length_map]; omega) rfl
theorem lot_e2 {S : Store} {ls : List Str} (h : LotN ls) : eLc (iRange2 (aCons (eC (.int 1)) (aCons (eCb lenF (aCons (eVar 0) aNil)) aNil))) [2] (gN 2) eYes (eBin ltD (eBin ixD (eVar 0) (eBin subD (eVar 2) (eC (.int 1)))) (eBin ixD (eVar 0) (eVar 2))) [some (.tup (ls.map .str)), none, none] S = .ok (.lst (List.replicate (rangeD 1 ((ls.map D.str).length - 1)).length (.bl true)), S) := by
  have h4 := h.four
  refine lc_true (lot_r2 h4) (by rw [rangeD_len, List.length_map]; omega) fun i x hx => ?_
  obtain ⟨rfl, hi⟩ := rangeD_get hx
  rw [List.length_map] at hi
  have a1 : atI (ls.map D.str) (1 + (i : Int) - 1) = some (.str ls[i]) := by
    rw [show (1 + (i : Int) - 1) = (i : Int) by omega]
    exact Pd.atI_nat (by simp [show i < ls.length by omega])
  have a2 : atI (ls.map D.str) (1 + (i : Int)) = some (.str ls[i + 1]) := by
    rw [show (1 + (i : Int)) = ((i + 1 : Nat) : Int) by omega]
    exact Pd.atI_nat (by simp [show i + 1 < ls.length by omega])
  have a3 : ltS ls[i] ls[i + 1] = true := List.pairwise_iff_getElem.mp h.asc i (i + 1) (by omega) (by omega) (by omega)
  have a4 : ltD S (.str ls[i]) (.str ls[i + 1]) = some (.bl true) := by
    show some (D.bl (ltS ls[i] ls[i + 1])) = _
    rw [a3]
  refine ⟨_, rfl, ?_⟩
  simp only [eVar, eC, eBin, eBinR, eB, eTru, eNotT, eOrT, eAndT, eNot, eAnd, eOr, eIf, sSeq, sSet, sIf, sRet, sRetN, sExpr, sNil, sPar, sPar3, sAsg, sAsq, gTu, gCn, gN, gNl, qTu, qCn, qN, qNl, qSub, aCons, aNil, aApp, eTup, eLst, eCel, ofO, ofP, Res.bind, Res.out, Res.bind0, eCb, f1, f2, eCallP, eSl, eSlS, pNone, pSome, sSub, eFld, fnD, fnDC, startD, pick, eChain, eIsi, eProp, noX, eMt, eM0, sFor, iSeq, iRange1, iRange2, eDct0, onlyS, onlyB, addD_int, subD_int, ltD_int, gtD_int, leD_int, geD_int, ixD_tup, ixD_lst, ixD_scr, atI_0, atI_1, atI_2, atI_3, atI_4, atI_5, atI_6, atI_7, atI_8, toIntD_int, truD_bl, List.getElem?_cons_zero, List.getElem?_cons_succ, List.getElem?_nil, List.set_cons_zero, List.set_cons_succ, List.length_cons, List.length_nil, List.map_cons, List.map_nil, List.replicate, List.append_nil, List.nil_append, List.cons_append, List.filterMap_cons, List.filterMap_nil, Nat.sub_self, Nat.zero_add, Nat.reduceAdd, Nat.reduceSub, Option.map_some, Option.map_none, if_true, if_false, ite_true, ite_false, reduceIte, Bool.false_eq_true, Nat.reduceLeDiff, Nat.reduceLT, Int.reduceLE, Int.reduceLT, Int.reduceEq, Nat.reduceBEq, Nat.reduceEqDiff, beq_self_eq_true, Bool.and_self, Bool.and_true, Bool.true_and, Bool.not_true, Bool.not_false, Bool.or_true, Bool.true_or, Bool.false_or, Bool.or_false, Bool.and_false, Bool.false_and, decide_true, decide_false, wipeD, a1, a2, a4]
theorem lot_c1 {S : Store} {n : Nat} {xs : List D} (hl : xs.length = n) (l1 : 1 ≤ n) (h4 : n ≤ 4) : (sIf (eOrT (eNotT (eTru (eIsi tab_tuple (eVar 0)))) (eNotT (eB (eChain leD leD (eC (.int 1)) (eCb lenF (aCons (eVar 0) aNil)) (eC (.int 4)))))) (sRet (eC (.bl false))) sNil) [some (.tup xs), none, none] S = .nx [some (.tup xs), none, none] S := by
  subst hl
  have d1 : decide ((1 : Int) ≤ (xs.length : Int)) = true := decide_eq_true (by omega)
  have d2 : decide ((xs.length : Int) ≤ 4) = true := decide_eq_true (by omega)
  simp only [eVar, eC, eBin, eBinR, eB, eTru, eNotT, eOrT, eAndT, eNot, eAnd, eOr, eIf, sSeq, sSet, sIf, sRet, sRetN, sExpr, sNil, sPar, sPar3, sAsg, sAsq, gTu, gCn, gN, gNl, qTu, qCn, qN, qNl, qSub, aCons, aNil, aApp, eTup, eLst, eCel, ofO, ofP, Res.bind, Res.out, Res.bind0, eCb, f1, f2, eCallP, eSl, eSlS, pNone, pSome, sSub, eFld, fnD, fnDC, startD, pick, eChain, eIsi, eProp, noX, eMt, eM0, sFor, iSeq, eDct0, onlyS, onlyB, addD_int, subD_int, ltD_int, gtD_int, leD_int, geD_int, ixD_tup, ixD_lst, ixD_scr, atI_0, atI_1, atI_2, atI_3, atI_4, atI_5, atI_6, atI_7, atI_8, toIntD_int, truD_bl, List.getElem?_cons_zero, List.getElem?_cons_succ, List.getElem?_nil, List.set_cons_zero, List.set_cons_succ, List.length_cons, List.length_nil, List.map_cons, List.map_nil, List.replicate, List.append_nil, List.nil_append, List.cons_append, List.filterMap_cons, List.filterMap_nil, Nat.sub_self, Nat.zero_add, Nat.reduceAdd, Nat.reduceSub, Option.map_some, Option.map_none, if_true, if_false, ite_true, ite_false, reduceIte, Bool.false_eq_true, Nat.reduceLeDiff, Nat.reduceLT, Int.reduceLE, Int.reduceLT, Int.reduceEq, Nat.reduceBEq, Nat.reduceEqDiff, beq_self_eq_true, Bool.and_self, Bool.and_true, Bool.true_and, Bool.not_true, Bool.not_false, Bool.or_true, Bool.true_or, Bool.false_or, Bool.or_false, Bool.and_false, Bool.false_and, decide_true, decide_false, eIsi, kdD_tup, tab_tuple, eChain, lenF_tup, d1, d2]
theorem lot_c2 {S : Store} {n : Nat} {d : D} {fN : FD} (e1 : eLc (iSeq (eVar 0)) [1] (gN 1) eYes (eCallP 1 0 fN [] [0] 1 (aCons (eVar 1) aNil) aNil) [some d, none, none] S = .ok (.lst (List.replicate n (.bl true)), S)) : (sIf (eNotT (eTru (eCb allF (aCons (eLc (iSeq (eVar 0)) [1] (gN 1) eYes (eCallP 1 0 fN [] [0] 1 (aCons (eVar 1) aNil) aNil)) aNil)))) (sRet (eC (.bl false))) sNil) [some d, none, none] S = .nx [some d, none, none] S := by
  simp only [sIf, eNotT, eTru, eCb, aCons, aNil, e1, Res.bind, Res.bind0, ofP, allF_rep, truD_bl, Bool.not_true, Bool.false_eq_true, if_false, sNil, Res.out]
theorem ret_all {S : Store} {n : Nat} {ρ : Slots} {f : EvE} (e2 : f ρ S = .ok (.lst (List.replicate n (.bl true)), S)) : sRet (eCb allF (aCons f aNil)) ρ S = .rt (.bl true) S := by
  simp only [sRet, eCb, aCons, aNil, e2, Res.bind, ofP, allF_rep, Res.out]
theorem is_lot_gen {S : Store} {ls : List Str} {fN : FD} (h : LotN ls) (hN : ∀ k ∈ ls, fN [.str k] S = .ok (.bl true, S)) : fnD 3 (ltB fN) [.tup (ls.map .str)] S = .ok (.bl true, S) := by
  have l1 : 1 ≤ ls.length := List.length_pos_iff.mpr h.ne
  have h4 := h.four
  refine fn_rt (d := .bl true) (S' := S) ?_ leave_id
  show sSeq _ (sSeq _ _) [some (.tup (ls.map .str)), none, none] S = _
  rw [seq_nx (lot_c1 (n := (ls.map D.str).length) rfl (by rw [List.length_map]; exact l1) (by rw [List.length_map]; exact h4)), seq_nx (lot_c2 (lot_e1 h4 hN))]
  exact ret_all (lot_e2 h)
theorem is_lot_ok {S : Store} {ls : List Str} (h : LotN ls) : f_is_lot [.tup (ls.map .str)] S = .ok (.bl true, S) := by
  rw [is_lot_eq]
  exact is_lot_gen h fun k m => is_name_ok (h.nm k m)
theorem is_pair_ok {S : Store} {a b : D} : f_is_pair [.tup [a, b]] S = .ok (.bl true, S) := by
  have e : eqD S (.int ((2 : Nat) : Int)) (.int 2) = some (.bl true) := rfl
  simp only [f_is_pair, b_is_pair, eVar, eC, eBin, eBinR, eB, eTru, eNotT, eOrT, eAndT, eNot, eAnd, eOr, eIf, sSeq, sSet, sIf, sRet, sRetN, sExpr, sNil, sPar, sPar3, sAsg, sAsq, gTu, gCn, gN, gNl, qTu, qCn, qN, qNl, qSub, aCons, aNil, aApp, eTup, eLst, eCel, ofO, ofP, Res.bind, Res.out, Res.bind0, eCb, f1, f2, eCallP, eSl, eSlS, pNone, pSome, sSub, eFld, fnD, fnDC, startD, pick, eChain, eIsi, eProp, noX, eMt, eM0, sFor, iSeq, iRange1, iRange2, eDct0, onlyS, onlyB, addD_int, subD_int, ltD_int, gtD_int, leD_int, geD_int, ixD_tup, ixD_lst, ixD_scr, atI_0, atI_1, atI_2, atI_3, atI_4, atI_5, atI_6, atI_7, atI_8, toIntD_int, truD_bl, List.getElem?_cons_zero, List.getElem?_cons_succ, List.getElem?_nil, List.set_cons_zero, List.set_cons_succ, List.length_cons, List.length_nil, List.map_cons, List.map_nil, List.replicate, List.append_nil, List.nil_append, List.cons_append, List.filterMap_cons, List.filterMap_nil, Nat.sub_self, Nat.zero_add, Nat.reduceAdd, Nat.reduceSub, Option.map_some, Option.map_none, if_true, if_false, ite_true, ite_false, reduceIte, Bool.false_eq_true, Nat.reduceLeDiff, Nat.reduceLT, Int.reduceLE, Int.reduceLT, Int.reduceEq, Nat.reduceBEq, Nat.reduceEqDiff, beq_self_eq_true, Bool.and_self, Bool.and_true, Bool.true_and, Bool.not_true, Bool.not_false, Bool.or_true, Bool.true_or, Bool.false_or, Bool.or_false, Bool.and_false, Bool.false_and, decide_true, decide_false, dunE, fldsD_int, fldsD_str, fldsD_bl, fldsD_non, fldsD_lst, fldsD_tup, fldsD_scr, fldsD_dct, fldsD_ins, kdD_int, kdD_str, kdD_bl, kdD_non, kdD_lst, kdD_tup, kdD_scr, kdD_dct, kdD_ins, lenF_scr, lenF_lst, lenF_tup, listF_lst, listF_tup, listC_lst, listC_tup, tupleF_lst, tupleF_tup, eqD_int, eqD_bl, neD_int, isN_non, isN_int, isN_tup, strD_str, isT_lst, isT_str, seqL_lst, seqA_lst, seqA_tup, slD_lst, slD_tup, List.lookup, List.find?, eJs_nil, eJs_cons, eFmt_eq, sempty_app, eCmP, eMakeP, eMakeL, sFldD, Nat.reduceEqDiff, eqO, neO, bltD, Option.isSome_some, and_self, bne_self_eq_false, Bool.bne_false, Bool.bne_true, Bool.true_bne, Bool.false_bne, tab_tuple, e]
  exact leave_id
/-! ### entries -/
structure EntsOk (es : List (Str × List Str)) : Prop where
  thirty : es.length ≤ 30
  nd : (es.map (·.1)).Nodup
  nm : ∀ e ∈ es, NameS e.1
  lot : ∀ e ∈ es, LotN e.2
def entsD (es : List (Str × List Str)) : D := .tup (es.map entryD)
def entB : EvS := (sSeq (sIf (eOrT (eB (eBin eqD (eVar 2) (eC (.int 30)))) (eOrT (eNotT (eTru (eCallP 1 0 f_is_pair [] [0] 1 (aCons (eVar 3) aNil) aNil))) (eOrT (eNotT (eTru (eCallP 1 0 f_is_name [] [0] 1 (aCons (eBin ixD (eVar 3) (eC (.int 0))) aNil) aNil))) (eNotT (eTru (eCallP 1 0 f_is_lot [] [0] 1 (aCons (eBin ixD (eVar 3) (eC (.int 1))) aNil) aNil)))))) (sRaise1 6 18 (aCons (eVar 2) aNil)) sNil)
    (sSeq (sIf (eB (eBin inD (eBin ixD (eVar 3) (eC (.int 0))) (eVar 1))) (sRaise1 6 18 (aCons (eVar 2) aNil)) sNil)
    (sExpr (eMt "list" appendF (eVar 1) (aCons (eBin ixD (eVar 3) (eC (.int 0))) aNil)))))
theorem ents_strs (es : List (Str × List Str)) : es.map (fun e => D.str e.1) = (es.map (·.1)).map .str := by simp
theorem check_entries_ok {S : Store} {es : List (Str × List Str)} (h : EntsOk es) : f_check_entries [entsD es] S = .ok (.non, S) := by
  have h30 := h.thirty
  obtain ⟨ρ1, S1, el, r2, r3, rfl, rfl⟩ := loop_inv (g := gTu 2 (gCn (gN 2) (gCn (gN 3) gNl))) (body := entB) (fun i ρ Z => ∃ r2 r3, ρ = [some (entsD es), some (.ref S.length), r2, r3] ∧ Z = S ++ [.lst (((es.take i).map (·.1)).map .str)])
    (xs := enumD (es.map entryD)) (k := 0) (ρ := [some (entsD es), some (.ref S.length), none, none]) (S := S ++ [.lst []]) ⟨none, none, rfl, rfl⟩ (by
      rintro i x ρ Z hx ⟨r2, r3, rfl, rfl⟩
      obtain ⟨y, hy, rfl⟩ := enumD_get hx
      rw [List.getElem?_map] at hy
      obtain ⟨e, he, rfl⟩ := Option.map_eq_some_iff.mp hy
      obtain ⟨hi, ei⟩ := List.getElem?_eq_some_iff.mp he
      rw [Nat.zero_add]
      have hm : e ∈ es := List.mem_of_getElem? he
      let Z := S ++ [Cell.lst (((es.take i).map (·.1)).map .str)]
      have n1 := is_name_ok (S := Z) (h.nm e hm)
      have n2 := is_lot_ok (S := Z) (h.lot e hm)
      have g : Z[S.length]? = some (.lst (((es.take i).map (·.1)).map .str)) := get_end rfl
      have ni : e.1 ∉ (es.take i).map (·.1) := fun hc => by
        have nd := h.nd
        have sp : es.map (·.1) = (es.take i).map (·.1) ++ (es.drop i).map (·.1) := by rw [← List.map_append, List.take_append_drop]
        rw [sp, List.nodup_append] at nd
        refine nd.2.2 _ hc e.1 (List.mem_map.mpr ⟨e, ?_, rfl⟩) rfl
        rw [List.drop_eq_getElem_cons hi, ei]
        exact List.mem_cons_self ..
      have nb : inD Z (.str e.1) (.ref S.length) = some (.bl false) := by
        have := inB_strsR g (fun y hy => by
          obtain ⟨z, hz, rfl⟩ := List.mem_map.mp hy
          exact (h.nm z (List.mem_of_mem_take hz)).ok) (h.nm e hm).ok
        simp only [inD, this, Option.map_some, decide_eq_false ni]
      have b0 : ((i : Int) == 30) = false := by simp; omega
      have ap : appendF Z (.ref S.length) [.str e.1] = some (.non, S ++ [.lst (((es.take (i + 1)).map (·.1)).map .str)]) := by
        rw [appendF_ref g (by simp; omega), show Z.set S.length _ = S ++ [_] from set_end rfl]
        rw [List.take_succ, he]
        simp
      refine ⟨_, rfl, [some (entsD es), some (.ref S.length), some (.int (i : Nat)), some (entryD e)], S ++ [.lst (((es.take (i + 1)).map (·.1)).map .str)], .inl ?_, _, _, rfl, rfl⟩
      show entB [some (entsD es), some (.ref S.length), some (.int (i : Nat)), some (entryD e)] Z = _
      simp only [entB, entryD, eVar, eC, eBin, eBinR, eB, eTru, eNotT, eOrT, eAndT, eNot, eAnd, eOr, eIf, sSeq, sSet, sIf, sRet, sRetN, sExpr, sNil, sPar, sPar3, sAsg, sAsq, gTu, gCn, gN, gNl, qTu, qCn, qN, qNl, qSub, aCons, aNil, aApp, eTup, eLst, eCel, ofO, ofP, Res.bind, Res.out, Res.bind0, eCb, f1, f2, eCallP, eSl, eSlS, pNone, pSome, sSub, eFld, fnD, fnDC, startD, pick, eChain, eIsi, eProp, noX, eMt, eM0, sFor, iSeq, eDct0, onlyS, onlyB, addD_int, subD_int, ltD_int, gtD_int, leD_int, geD_int, ixD_tup, ixD_lst, ixD_scr, atI_0, atI_1, atI_2, atI_3, atI_4, atI_5, atI_6, atI_7, atI_8, toIntD_int, truD_bl, List.getElem?_cons_zero, List.getElem?_cons_succ, List.getElem?_nil, List.set_cons_zero, List.set_cons_succ, List.length_cons, List.length_nil, List.map_cons, List.map_nil, List.replicate, List.append_nil, List.nil_append, List.cons_append, List.filterMap_cons, List.filterMap_nil, Nat.sub_self, Nat.zero_add, Nat.reduceAdd, Nat.reduceSub, Option.map_some, Option.map_none, if_true, if_false, ite_true, ite_false, reduceIte, Bool.false_eq_true, Nat.reduceLeDiff, Nat.reduceLT, Int.reduceLE, Int.reduceLT, Int.reduceEq, Nat.reduceBEq, Nat.reduceEqDiff, beq_self_eq_true, Bool.and_self, Bool.and_true, Bool.true_and, Bool.not_true, Bool.not_false, Bool.or_true, Bool.true_or, Bool.false_or, Bool.or_false, Bool.and_false, Bool.false_and, decide_true, decide_false, eqD_int, b0, is_pair_ok, n1, n2, nb, isT_ref g, ap])
  have s0 : (sIf (eNotT (eTru (eIsi tab_tuple (eVar 0)))) (sRaise1 6 18 (aCons (eC .non) aNil)) sNil) [some (entsD es), none, none, none] S = .nx [some (entsD es), none, none, none] S := by
    simp only [entsD, eVar, eC, eBin, eBinR, eB, eTru, eNotT, eOrT, eAndT, eNot, eAnd, eOr, eIf, sSeq, sSet, sIf, sRet, sRetN, sExpr, sNil, sPar, sPar3, sAsg, sAsq, gTu, gCn, gN, gNl, qTu, qCn, qN, qNl, qSub, aCons, aNil, aApp, eTup, eLst, eCel, ofO, ofP, Res.bind, Res.out, Res.bind0, eCb, f1, f2, eCallP, eSl, eSlS, pNone, pSome, sSub, eFld, fnD, fnDC, startD, pick, eChain, eIsi, eProp, noX, eMt, eM0, sFor, iSeq, iRange1, iRange2, eDct0, onlyS, onlyB, addD_int, subD_int, ltD_int, gtD_int, leD_int, geD_int, ixD_tup, ixD_lst, ixD_scr, atI_0, atI_1, atI_2, atI_3, atI_4, atI_5, atI_6, atI_7, atI_8, toIntD_int, truD_bl, List.getElem?_cons_zero, List.getElem?_cons_succ, List.getElem?_nil, List.set_cons_zero, List.set_cons_succ, List.length_cons, List.length_nil, List.map_cons, List.map_nil, List.replicate, List.append_nil, List.nil_append, List.cons_append, List.filterMap_cons, List.filterMap_nil, Nat.sub_self, Nat.zero_add, Nat.reduceAdd, Nat.reduceSub, Option.map_some, Option.map_none, if_true, if_false, ite_true, ite_false, reduceIte, Bool.false_eq_true, Nat.reduceLeDiff, Nat.reduceLT, Int.reduceLE, Int.reduceLT, Int.reduceEq, Nat.reduceBEq, Nat.reduceEqDiff, beq_self_eq_true, Bool.and_self, Bool.and_true, Bool.true_and, Bool.not_true, Bool.not_false, Bool.or_true, Bool.true_or, Bool.false_or, Bool.or_false, Bool.and_false, Bool.false_and, decide_true, decide_false, dunE, fldsD_int, fldsD_str, fldsD_bl, fldsD_non, fldsD_lst, fldsD_tup, fldsD_scr, fldsD_dct, fldsD_ins, kdD_int, kdD_str, kdD_bl, kdD_non, kdD_lst, kdD_tup, kdD_scr, kdD_dct, kdD_ins, lenF_scr, lenF_lst, lenF_tup, listF_lst, listF_tup, listC_lst, listC_tup, tupleF_lst, tupleF_tup, eqD_int, eqD_bl, neD_int, isN_non, isN_int, isN_tup, strD_str, isT_lst, isT_str, seqL_lst, seqA_lst, seqA_tup, slD_lst, slD_tup, List.lookup, List.find?, eJs_nil, eJs_cons, eFmt_eq, sempty_app, eCmP, eMakeP, eMakeL, sFldD, Nat.reduceEqDiff, eqO, neO, bltD, Option.isSome_some, and_self, bne_self_eq_false, Bool.bne_false, Bool.bne_true, Bool.true_bne, Bool.false_bne, tab_tuple]
  have s1 : sSet 1 (eCel aNil) [some (entsD es), none, none, none] S = .nx [some (entsD es), some (.ref S.length), none, none] (S ++ [.lst []]) := rfl
  have eb : b_check_entries [some (entsD es), none, none, none] S = .nx [some (entsD es), some (.ref S.length), r2, r3] (S ++ [.lst (((es.take (0 + (enumD (es.map entryD)).length)).map (·.1)).map .str)]) := by
    show sSeq _ (sSeq _ (sFor _ _ entB)) [some (entsD es), none, none, none] S = _
    rw [seq_nx s0, seq_nx s1]
    exact for_nx (xs := enumD (es.map entryD)) (S1 := S ++ [.lst []]) rfl el
  have st : startD 4 [entsD es] = [some (entsD es), none, none, none] := rfl
  simp only [f_check_entries, fnD, st, eb]
  exact leave_flat rfl (by simp) (oldOk_refl _ _ _) rfl
end K05
end
section
namespace K05
open PySem PySem.Spec PyProof.Rows L2 Pd
/-! ### a list at its beginning -/
def fsW (w d : Int) (s e : Str) (es : List (Str × List Str)) : List (Nat × D) := [(13, hD w d s e), (14, entsD es), (15, .tup []), (16, .int 1), (17, .tup [])]
def wD (w d : Int) (s e : Str) (es : List (Str × List Str)) : D := .ins 3 (fsW w d s e es)
theorem nrs_str {k : Nat} : ∀ ls : List Str, nrs k (ls.map .str) = true
  | [] => rfl
  | _ :: r => by simp only [List.map_cons, nrs, nr, nrs_str r, Bool.and_self]
theorem nrs_ents {k : Nat} : ∀ es : List (Str × List Str), nrs k (es.map entryD) = true
  | [] => rfl
  | _ :: r => by simp only [List.map_cons, nrs, nr, entryD, nrs_str, nrs_ents r, Bool.and_self]
/-! data of entries -/
def entP (e : Str × List Str) : PyData := .tuple [.str e.1, .tuple (e.2.map .str)]
theorem pyFs_ents {rec : D → Option PyData} {S : Store} : ∀ es : List (Str × List Str), pyFs rec S (es.map entryD) = some (es.map entP)
  | [] => rfl
  | e :: r => by
    simp only [List.map_cons, pyFs, pyFs_ents r, entryD, pyF, pyFs_strs, Option.map_some, entP]
theorem py_ents {S : Store} (k : Nat) (es : List (Str × List Str)) : py S k (entsD es) = some (.tuple (es.map entP)) := by
  cases k <;> simp only [py, pyF, entsD, pyFs_ents, Option.map_some]
theorem eqvAll_str : ∀ xs ys : List Str, PyData.eqvAll (xs.map .str) (ys.map .str) = decide (xs = ys)
  | [], [] => rfl
  | [], _ :: _ => rfl
  | _ :: _, [] => rfl
  | x :: xs, y :: ys => by
    have ih := eqvAll_str xs ys
    simp only [List.map_cons, PyData.eqvAll, PyData.eqv, ih]
    by_cases h : x = y
    · subst h; simp
    · simp [h]
theorem eqv_ent (e f : Str × List Str) : PyData.eqv (entP e) (entP f) = decide (e = f) := by
  obtain ⟨a, l⟩ := e
  obtain ⟨b, m⟩ := f
  simp only [entP, PyData.eqv, PyData.eqvAll, eqvAll_str]
  by_cases h : a = b <;> by_cases q : l = m <;> simp [h, q]
theorem eqvAll_ents : ∀ xs ys : List (Str × List Str), PyData.eqvAll (xs.map entP) (ys.map entP) = decide (xs = ys)
  | [], [] => rfl
  | [], _ :: _ => rfl
  | _ :: _, [] => rfl
  | x :: xs, y :: ys => by
    have ih := eqvAll_ents xs ys
    simp only [List.map_cons, PyData.eqvAll, ih, eqv_ent]
    by_cases h : x = y
    · subst h; simp
    · simp [h]
theorem canLay_ents : ∀ {es : List (Str × List Str)}, (∀ e ∈ es, NameS e.1) → (∀ e ∈ es, LotN e.2) → PyData.canLayAll0 (es.map entP) = true
  | [], _, _ => rfl
  | e :: r, h, g => by
    have e1 := (h e (List.mem_cons_self ..)).ok
    have e2 : PyData.canLayAll0 (e.2.map .str) = true := canLay_strs fun k m => ((g e (List.mem_cons_self ..)).nm k m).ok
    simp only [List.map_cons, PyData.canLayAll0, PyData.canLay0, entP, e1, e2, Bool.true_and, Bool.and_true]
    exact canLay_ents (fun z m => h z (List.mem_cons_of_mem _ m)) fun z m => g z (List.mem_cons_of_mem _ m)
theorem depth_ents : ∀ es : List (Str × List Str), PyData.depthAll (es.map entP) ≤ 2
  | [] => Nat.zero_le _
  | e :: r => by
    have := depth_ents r
    simp only [List.map_cons, PyData.depthAll, PyData.depth, entP, depth_strs]
    omega
theorem shaped_ents {es : List (Str × List Str)} (h : EntsOk es) : SeqAt.shaped (.tuple (es.map entP)) = true := by
  have := depth_ents es
  simp [SeqAt.shaped, PyData.canLay0, canLay_ents h.nm h.lot, PyData.depth]
  omega
theorem eqD_ents {S : Store} {es fs : List (Str × List Str)} (h : EntsOk es) (g : EntsOk fs) : eqD S (entsD es) (entsD fs) = some (.bl (decide (es = fs))) := by
  simp only [eqD, py_ents]
  rw [if_pos (by rw [shaped_ents h, shaped_ents g]; rfl)]
  simp only [PyData.eqv, eqvAll_ents]
theorem neD_ents {S : Store} {es fs : List (Str × List Str)} (h : EntsOk es) (g : EntsOk fs) : neD S (entsD es) (entsD fs) = some (.bl (!decide (es = fs))) := by
  simp only [neD, py_ents]
  rw [if_pos (by rw [shaped_ents h, shaped_ents g]; rfl)]
  simp only [PyData.eqv, eqvAll_ents]
section
variable {w d : Int} {s e : Str} {S : Store} {es : List (Str × List Str)}
theorem check_house_ok : f_check_house [hD w d s e] S = .ok (.non, S) := by
  simp only [f_check_house, b_check_house, eVar, eC, eBin, eBinR, eB, eTru, eNotT, eOrT, eAndT, eNot, eAnd, eOr, eIf, sSeq, sSet, sIf, sRet, sRetN, sExpr, sNil, sPar, sPar3, sAsg, sAsq, gTu, gCn, gN, gNl, qTu, qCn, qN, qNl, qSub, aCons, aNil, aApp, eTup, eLst, eCel, ofO, ofP, Res.bind, Res.out, Res.bind0, eCb, f1, f2, eCallP, eSl, eSlS, pNone, pSome, sSub, eFld, fnD, fnDC, startD, pick, eChain, eIsi, eProp, noX, eMt, eM0, sFor, iSeq, iRange1, iRange2, eDct0, onlyS, onlyB, addD_int, subD_int, ltD_int, gtD_int, leD_int, geD_int, ixD_tup, ixD_lst, ixD_scr, atI_0, atI_1, atI_2, atI_3, atI_4, atI_5, atI_6, atI_7, atI_8, toIntD_int, truD_bl, List.getElem?_cons_zero, List.getElem?_cons_succ, List.getElem?_nil, List.set_cons_zero, List.set_cons_succ, List.length_cons, List.length_nil, List.map_cons, List.map_nil, List.replicate, List.append_nil, List.nil_append, List.cons_append, List.filterMap_cons, List.filterMap_nil, Nat.sub_self, Nat.zero_add, Nat.reduceAdd, Nat.reduceSub, Option.map_some, Option.map_none, if_true, if_false, ite_true, ite_false, reduceIte, Bool.false_eq_true, Nat.reduceLeDiff, Nat.reduceLT, Int.reduceLE, Int.reduceLT, Int.reduceEq, Nat.reduceBEq, Nat.reduceEqDiff, beq_self_eq_true, Bool.and_self, Bool.and_true, Bool.true_and, Bool.not_true, Bool.not_false, Bool.or_true, Bool.true_or, Bool.false_or, Bool.or_false, Bool.and_false, Bool.false_and, decide_true, decide_false, dunE, fldsD_int, fldsD_str, fldsD_bl, fldsD_non, fldsD_lst, fldsD_tup, fldsD_scr, fldsD_dct, fldsD_ins, kdD_int, kdD_str, kdD_bl, kdD_non, kdD_lst, kdD_tup, kdD_scr, kdD_dct, kdD_ins, lenF_scr, lenF_lst, lenF_tup, listF_lst, listF_tup, listC_lst, listC_tup, tupleF_lst, tupleF_tup, eqD_int, eqD_bl, neD_int, isN_non, isN_int, isN_tup, strD_str, isT_lst, isT_str, seqL_lst, seqA_lst, seqA_tup, slD_lst, slD_tup, List.lookup, List.find?, eJs_nil, eJs_cons, eFmt_eq, sempty_app, eCmP, eMakeP, eMakeL, sFldD, Nat.reduceEqDiff, eqO, neO, bltD, Option.isSome_some, and_self, bne_self_eq_false, Bool.bne_false, Bool.bne_true, Bool.true_bne, Bool.false_bne, kdD_hD, tab_House]
  exact leave_id
theorem winit_ok (he : EntsOk es) {T : Store} {L : Nat} (hL : T.length = L) : f_Waitingzz_initzz [.ref L, hD w d s e, entsD es] (T ++ [.ins 3 []]) = .ok (.non, T ++ [.ins 3 (fsW w d s e es)]) := by
  have g : ∀ {fs i d}, fs.length < 1000 → setFD (T ++ [Cell.ins 3 fs]) (.ref L) i d = some (T ++ [.ins 3 (putN i d fs)]) := fun {fs i d} hl => by rw [setFD_ref (get_end hL) hl, set_end hL]
  simp (disch := simp) only [f_Waitingzz_initzz, b_Waitingzz_initzz, eVar, eC, eBin, eBinR, eB, eTru, eNotT, eOrT, eAndT, eNot, eAnd, eOr, eIf, sSeq, sSet, sIf, sRet, sRetN, sExpr, sNil, sPar, sPar3, sAsg, sAsq, gTu, gCn, gN, gNl, qTu, qCn, qN, qNl, qSub, aCons, aNil, aApp, eTup, eLst, eCel, ofO, ofP, Res.bind, Res.out, Res.bind0, eCb, f1, f2, eCallP, eSl, eSlS, pNone, pSome, sSub, eFld, fnD, fnDC, startD, pick, eChain, eIsi, eProp, noX, eMt, eM0, sFor, iSeq, iRange1, iRange2, eDct0, onlyS, onlyB, addD_int, subD_int, ltD_int, gtD_int, leD_int, geD_int, ixD_tup, ixD_lst, ixD_scr, atI_0, atI_1, atI_2, atI_3, atI_4, atI_5, atI_6, atI_7, atI_8, toIntD_int, truD_bl, List.getElem?_cons_zero, List.getElem?_cons_succ, List.getElem?_nil, List.set_cons_zero, List.set_cons_succ, List.length_cons, List.length_nil, List.map_cons, List.map_nil, List.replicate, List.append_nil, List.nil_append, List.cons_append, List.filterMap_cons, List.filterMap_nil, Nat.sub_self, Nat.zero_add, Nat.reduceAdd, Nat.reduceSub, Option.map_some, Option.map_none, if_true, if_false, ite_true, ite_false, reduceIte, Bool.false_eq_true, Nat.reduceLeDiff, Nat.reduceLT, Int.reduceLE, Int.reduceLT, Int.reduceEq, Nat.reduceBEq, Nat.reduceEqDiff, beq_self_eq_true, Bool.and_self, Bool.and_true, Bool.true_and, Bool.not_true, Bool.not_false, Bool.or_true, Bool.true_or, Bool.false_or, Bool.or_false, Bool.and_false, Bool.false_and, decide_true, decide_false, dunE, fldsD_int, fldsD_str, fldsD_bl, fldsD_non, fldsD_lst, fldsD_tup, fldsD_scr, fldsD_dct, fldsD_ins, kdD_int, kdD_str, kdD_bl, kdD_non, kdD_lst, kdD_tup, kdD_scr, kdD_dct, kdD_ins, lenF_scr, lenF_lst, lenF_tup, listF_lst, listF_tup, listC_lst, listC_tup, tupleF_lst, tupleF_tup, eqD_int, eqD_bl, neD_int, isN_non, isN_int, isN_tup, strD_str, isT_lst, isT_str, seqL_lst, seqA_lst, seqA_tup, slD_lst, slD_tup, List.lookup, List.find?, eJs_nil, eJs_cons, eFmt_eq, sempty_app, eCmP, eMakeP, eMakeL, sFldD, Nat.reduceEqDiff, eqO, neO, bltD, Option.isSome_some, and_self, bne_self_eq_false, Bool.bne_false, Bool.bne_true, Bool.true_bne, Bool.false_bne, check_house_ok, check_entries_ok he, List.length_append, g, Pd.putN, Nat.reduceEqDiff]
  rw [Pd.leave_same (by simp)]
  rfl
theorem leave_w {T : Store} {L : Nat} (hL : T.length = L) : leave T (.ref L) (T ++ [.ins 3 (fsW w d s e es)]) = .ok (wD w d s e es, T) :=
  leave_ins hL rfl (oldOk_refl _ _ _) (by simp only [fsW, nrf, nr, hD, fsH, entsD, nrs_ents, nrs, Bool.and_self])
theorem wmake {n j : Nat} {dds : List D} {plan : List Nat} {ga gk : EvA} {ρ : Slots} {T T2 : Store} {as zs : List D} (he : EntsOk es) (e1 : ga ρ S = .ok (as, T)) (e2 : gk ρ T = .ok (zs, T2)) (hn : as.length = n) (hj : zs.length = j)
    (hp : pick plan (.ref T2.length :: as ++ zs ++ dds) = [.ref T2.length, hD w d s e, entsD es]) : eMakeP 3 n j f_Waitingzz_initzz dds plan 3 ga gk ρ S = .ok (wD w d s e es, T2) := by
  unfold eMakeP
  simp only [e1, e2, Res.bind, hp, winit_ok he rfl]
  rw [if_pos (by simp [hn, hj])]
  exact leave_w rfl
theorem fldsD_wD : fldsD S (wD w d s e es) = some (3, fsW w d s e es) := rfl
theorem kdD_wD : kdD S (wD w d s e es) = some (.ins 3) := rfl
theorem eqD_unit : eqD S (.tup []) (.tup []) = some (.bl true) := rfl
theorem weq_ok {w' d' : Int} {s' e' : Str} {fs : List (Str × List Str)} (h : Ok w d s e) (h' : Ok w' d' s' e') (he : EntsOk es) (hf : EntsOk fs) : f_Waitingzz_eqzz [wD w d s e es, wD w' d' s' e' fs] S = .ok (.bl (decide ((w = w' ∧ d = d' ∧ s = s' ∧ e = e') ∧ es = fs)), S) := by
  have q := heq_ok (S := S) h h'
  have r := eqD_ents (S := S) he hf
  by_cases h1 : w = w' ∧ d = d' ∧ s = s' ∧ e = e'
  · rw [decide_eq_true h1] at q
    by_cases h2 : es = fs
    · rw [decide_eq_true h2] at r
      rw [decide_eq_true ⟨h1, h2⟩]
      simp only [f_Waitingzz_eqzz, b_Waitingzz_eqzz, eVar, eC, eBin, eBinR, eB, eTru, eNotT, eOrT, eAndT, eNot, eAnd, eOr, eIf, sSeq, sSet, sIf, sRet, sRetN, sExpr, sNil, sPar, sPar3, sAsg, sAsq, gTu, gCn, gN, gNl, qTu, qCn, qN, qNl, qSub, aCons, aNil, aApp, eTup, eLst, eCel, ofO, ofP, Res.bind, Res.out, Res.bind0, eCb, f1, f2, eCallP, eSl, eSlS, pNone, pSome, sSub, eFld, fnD, fnDC, startD, pick, eChain, eIsi, eProp, noX, eMt, eM0, sFor, iSeq, iRange1, iRange2, eDct0, onlyS, onlyB, addD_int, subD_int, ltD_int, gtD_int, leD_int, geD_int, ixD_tup, ixD_lst, ixD_scr, atI_0, atI_1, atI_2, atI_3, atI_4, atI_5, atI_6, atI_7, atI_8, toIntD_int, truD_bl, List.getElem?_cons_zero, List.getElem?_cons_succ, List.getElem?_nil, List.set_cons_zero, List.set_cons_succ, List.length_cons, List.length_nil, List.map_cons, List.map_nil, List.replicate, List.append_nil, List.nil_append, List.cons_append, List.filterMap_cons, List.filterMap_nil, Nat.sub_self, Nat.zero_add, Nat.reduceAdd, Nat.reduceSub, Option.map_some, Option.map_none, if_true, if_false, ite_true, ite_false, reduceIte, Bool.false_eq_true, Nat.reduceLeDiff, Nat.reduceLT, Int.reduceLE, Int.reduceLT, Int.reduceEq, Nat.reduceBEq, Nat.reduceEqDiff, beq_self_eq_true, Bool.and_self, Bool.and_true, Bool.true_and, Bool.not_true, Bool.not_false, Bool.or_true, Bool.true_or, Bool.false_or, Bool.or_false, Bool.and_false, Bool.false_and, decide_true, decide_false, dunE, fldsD_int, fldsD_str, fldsD_bl, fldsD_non, fldsD_lst, fldsD_tup, fldsD_scr, fldsD_dct, fldsD_ins, kdD_int, kdD_str, kdD_bl, kdD_non, kdD_lst, kdD_tup, kdD_scr, kdD_dct, kdD_ins, lenF_scr, lenF_lst, lenF_tup, listF_lst, listF_tup, listC_lst, listC_tup, tupleF_lst, tupleF_tup, eqD_int, eqD_bl, neD_int, isN_non, isN_int, isN_tup, strD_str, isT_lst, isT_str, seqL_lst, seqA_lst, seqA_tup, slD_lst, slD_tup, List.lookup, List.find?, eJs_nil, eJs_cons, eFmt_eq, sempty_app, eCmP, eMakeP, eMakeL, sFldD, Nat.reduceEqDiff, eqO, neO, bltD, Option.isSome_some, and_self, bne_self_eq_false, Bool.bne_false, Bool.bne_true, Bool.true_bne, Bool.false_bne, kdD_wD, tab_Waiting, fldsD_wD, fsW, fldsD_hD, kdD_hD, q, r, eqD_unit]
      exact leave_id
    · rw [decide_eq_false h2] at r
      rw [show decide ((w = w' ∧ d = d' ∧ s = s' ∧ e = e') ∧ es = fs) = false from decide_eq_false fun z => h2 z.2]
      simp only [f_Waitingzz_eqzz, b_Waitingzz_eqzz, eVar, eC, eBin, eBinR, eB, eTru, eNotT, eOrT, eAndT, eNot, eAnd, eOr, eIf, sSeq, sSet, sIf, sRet, sRetN, sExpr, sNil, sPar, sPar3, sAsg, sAsq, gTu, gCn, gN, gNl, qTu, qCn, qN, qNl, qSub, aCons, aNil, aApp, eTup, eLst, eCel, ofO, ofP, Res.bind, Res.out, Res.bind0, eCb, f1, f2, eCallP, eSl, eSlS, pNone, pSome, sSub, eFld, fnD, fnDC, startD, pick, eChain, eIsi, eProp, noX, eMt, eM0, sFor, iSeq, iRange1, iRange2, eDct0, onlyS, onlyB, addD_int, subD_int, ltD_int, gtD_int, leD_int, geD_int, ixD_tup, ixD_lst, ixD_scr, atI_0, atI_1, atI_2, atI_3, atI_4, atI_5, atI_6, atI_7, atI_8, toIntD_int, truD_bl, List.getElem?_cons_zero, List.getElem?_cons_succ, List.getElem?_nil, List.set_cons_zero, List.set_cons_succ, List.length_cons, List.length_nil, List.map_cons, List.map_nil, List.replicate, List.append_nil, List.nil_append, List.cons_append, List.filterMap_cons, List.filterMap_nil, Nat.sub_self, Nat.zero_add, Nat.reduceAdd, Nat.reduceSub, Option.map_some, Option.map_none, if_true, if_false, ite_true, ite_false, reduceIte, Bool.false_eq_true, Nat.reduceLeDiff, Nat.reduceLT, Int.reduceLE, Int.reduceLT, Int.reduceEq, Nat.reduceBEq, Nat.reduceEqDiff, beq_self_eq_true, Bool.and_self, Bool.and_true, Bool.true_and, Bool.not_true, Bool.not_false, Bool.or_true, Bool.true_or, Bool.false_or, Bool.or_false, Bool.and_false, Bool.false_and, decide_true, decide_false, dunE, fldsD_int, fldsD_str, fldsD_bl, fldsD_non, fldsD_lst, fldsD_tup, fldsD_scr, fldsD_dct, fldsD_ins, kdD_int, kdD_str, kdD_bl, kdD_non, kdD_lst, kdD_tup, kdD_scr, kdD_dct, kdD_ins, lenF_scr, lenF_lst, lenF_tup, listF_lst, listF_tup, listC_lst, listC_tup, tupleF_lst, tupleF_tup, eqD_int, eqD_bl, neD_int, isN_non, isN_int, isN_tup, strD_str, isT_lst, isT_str, seqL_lst, seqA_lst, seqA_tup, slD_lst, slD_tup, List.lookup, List.find?, eJs_nil, eJs_cons, eFmt_eq, sempty_app, eCmP, eMakeP, eMakeL, sFldD, Nat.reduceEqDiff, eqO, neO, bltD, Option.isSome_some, and_self, bne_self_eq_false, Bool.bne_false, Bool.bne_true, Bool.true_bne, Bool.false_bne, kdD_wD, tab_Waiting, fldsD_wD, fsW, fldsD_hD, kdD_hD, q, r, eqD_unit]
      exact leave_id
  · rw [decide_eq_false h1] at q
    rw [show decide ((w = w' ∧ d = d' ∧ s = s' ∧ e = e') ∧ es = fs) = false from decide_eq_false fun z => h1 z.1]
    simp only [f_Waitingzz_eqzz, b_Waitingzz_eqzz, eVar, eC, eBin, eBinR, eB, eTru, eNotT, eOrT, eAndT, eNot, eAnd, eOr, eIf, sSeq, sSet, sIf, sRet, sRetN, sExpr, sNil, sPar, sPar3, sAsg, sAsq, gTu, gCn, gN, gNl, qTu, qCn, qN, qNl, qSub, aCons, aNil, aApp, eTup, eLst, eCel, ofO, ofP, Res.bind, Res.out, Res.bind0, eCb, f1, f2, eCallP, eSl, eSlS, pNone, pSome, sSub, eFld, fnD, fnDC, startD, pick, eChain, eIsi, eProp, noX, eMt, eM0, sFor, iSeq, iRange1, iRange2, eDct0, onlyS, onlyB, addD_int, subD_int, ltD_int, gtD_int, leD_int, geD_int, ixD_tup, ixD_lst, ixD_scr, atI_0, atI_1, atI_2, atI_3, atI_4, atI_5, atI_6, atI_7, atI_8, toIntD_int, truD_bl, List.getElem?_cons_zero, List.getElem?_cons_succ, List.getElem?_nil, List.set_cons_zero, List.set_cons_succ, List.length_cons, List.length_nil, List.map_cons, List.map_nil, List.replicate, List.append_nil, List.nil_append, List.cons_append, List.filterMap_cons, List.filterMap_nil, Nat.sub_self, Nat.zero_add, Nat.reduceAdd, Nat.reduceSub, Option.map_some, Option.map_none, if_true, if_false, ite_true, ite_false, reduceIte, Bool.false_eq_true, Nat.reduceLeDiff, Nat.reduceLT, Int.reduceLE, Int.reduceLT, Int.reduceEq, Nat.reduceBEq, Nat.reduceEqDiff, beq_self_eq_true, Bool.and_self, Bool.and_true, Bool.true_and, Bool.not_true, Bool.not_false, Bool.or_true, Bool.true_or, Bool.false_or, Bool.or_false, Bool.and_false, Bool.false_and, decide_true, decide_false, dunE, fldsD_int, fldsD_str, fldsD_bl, fldsD_non, fldsD_lst, fldsD_tup, fldsD_scr, fldsD_dct, fldsD_ins, kdD_int, kdD_str, kdD_bl, kdD_non, kdD_lst, kdD_tup, kdD_scr, kdD_dct, kdD_ins, lenF_scr, lenF_lst, lenF_tup, listF_lst, listF_tup, listC_lst, listC_tup, tupleF_lst, tupleF_tup, eqD_int, eqD_bl, neD_int, isN_non, isN_int, isN_tup, strD_str, isT_lst, isT_str, seqL_lst, seqA_lst, seqA_tup, slD_lst, slD_tup, List.lookup, List.find?, eJs_nil, eJs_cons, eFmt_eq, sempty_app, eCmP, eMakeP, eMakeL, sFldD, Nat.reduceEqDiff, eqO, neO, bltD, Option.isSome_some, and_self, bne_self_eq_false, Bool.bne_false, Bool.bne_true, Bool.true_bne, Bool.false_bne, kdD_wD, tab_Waiting, fldsD_wD, fsW, fldsD_hD, kdD_hD, q, eqD_unit]
    exact leave_id
theorem weq_other {x : D} {k : Kd} (hk : kdD S x = some k) (ht : tab_Waiting k = some false) : f_Waitingzz_eqzz [wD w d s e es, x] S = .ok (.bl false, S) := by
  simp only [f_Waitingzz_eqzz, b_Waitingzz_eqzz, eVar, eC, eBin, eBinR, eB, eTru, eNotT, eOrT, eAndT, eNot, eAnd, eOr, eIf, sSeq, sSet, sIf, sRet, sRetN, sExpr, sNil, sPar, sPar3, sAsg, sAsq, gTu, gCn, gN, gNl, qTu, qCn, qN, qNl, qSub, aCons, aNil, aApp, eTup, eLst, eCel, ofO, ofP, Res.bind, Res.out, Res.bind0, eCb, f1, f2, eCallP, eSl, eSlS, pNone, pSome, sSub, eFld, fnD, fnDC, startD, pick, eChain, eIsi, eProp, noX, eMt, eM0, sFor, iSeq, iRange1, iRange2, eDct0, onlyS, onlyB, addD_int, subD_int, ltD_int, gtD_int, leD_int, geD_int, ixD_tup, ixD_lst, ixD_scr, atI_0, atI_1, atI_2, atI_3, atI_4, atI_5, atI_6, atI_7, atI_8, toIntD_int, truD_bl, List.getElem?_cons_zero, List.getElem?_cons_succ, List.getElem?_nil, List.set_cons_zero, List.set_cons_succ, List.length_cons, List.length_nil, List.map_cons, List.map_nil, List.replicate, List.append_nil, List.nil_append, List.cons_append, List.filterMap_cons, List.filterMap_nil, Nat.sub_self, Nat.zero_add, Nat.reduceAdd, Nat.reduceSub, Option.map_some, Option.map_none, if_true, if_false, ite_true, ite_false, reduceIte, Bool.false_eq_true, Nat.reduceLeDiff, Nat.reduceLT, Int.reduceLE, Int.reduceLT, Int.reduceEq, Nat.reduceBEq, Nat.reduceEqDiff, beq_self_eq_true, Bool.and_self, Bool.and_true, Bool.true_and, Bool.not_true, Bool.not_false, Bool.or_true, Bool.true_or, Bool.false_or, Bool.or_false, Bool.and_false, Bool.false_and, decide_true, decide_false, dunE, fldsD_int, fldsD_str, fldsD_bl, fldsD_non, fldsD_lst, fldsD_tup, fldsD_scr, fldsD_dct, fldsD_ins, kdD_int, kdD_str, kdD_bl, kdD_non, kdD_lst, kdD_tup, kdD_scr, kdD_dct, kdD_ins, lenF_scr, lenF_lst, lenF_tup, listF_lst, listF_tup, listC_lst, listC_tup, tupleF_lst, tupleF_tup, eqD_int, eqD_bl, neD_int, isN_non, isN_int, isN_tup, strD_str, isT_lst, isT_str, seqL_lst, seqA_lst, seqA_tup, slD_lst, slD_tup, List.lookup, List.find?, eJs_nil, eJs_cons, eFmt_eq, sempty_app, eCmP, eMakeP, eMakeL, sFldD, Nat.reduceEqDiff, eqO, neO, bltD, Option.isSome_some, and_self, bne_self_eq_false, Bool.bne_false, Bool.bne_true, Bool.true_bne, Bool.false_bne, hk, ht]
  exact leave_id
end
end K05
end
section
namespace K05
open PySem PySem.Spec PyProof.Rows L2 Pd
/-! ### a day, before its morning -/
def pairE (e : Str × List Str) : Key × D := (.inr e.1, .tup (e.2.map .str))
theorem pairs_ents : ∀ es : List (Str × List Str), pairsD (es.map entryD) = some (es.map pairE)
  | [] => rfl
  | e :: r => by simp only [List.map_cons, pairsD, entryD, keyD, pairs_ents r, Option.map_some, pairE]
theorem nrk_put {k : Nat} {q : Key} {v : D} (hv : nr k v = true) : ∀ {ks : List (Key × D)}, nrk k ks = true → nrk k (putD ks q v) = true := by
  intro ks h
  have rep : ∀ ks : List (Key × D), nrk k ks = true → nrk k (ks.map fun kv => if kv.1 = q then (kv.1, v) else kv) = true := by
    intro ks
    induction ks with
    | nil => intro _; rfl
    | cons p r ih =>
      intro h
      obtain ⟨a, b⟩ := p
      simp only [nrk, Bool.and_eq_true] at h
      rw [List.map_cons]
      by_cases z : a = q
      · rw [if_pos z]; simp only [nrk, hv, ih h.2, Bool.and_self]
      · rw [if_neg z]; simp only [nrk, h.1, ih h.2, Bool.and_self]
  have app : ∀ ks : List (Key × D), nrk k ks = true → nrk k (ks ++ [(q, v)]) = true := by
    intro ks
    induction ks with
    | nil => intro _; simp only [List.nil_append, nrk, hv, Bool.and_self]
    | cons p r ih =>
      intro h
      obtain ⟨a, b⟩ := p
      simp only [nrk, Bool.and_eq_true] at h
      simp only [List.cons_append, nrk, h.1, ih h.2, Bool.and_self]
  unfold putD
  split
  · exact rep ks h
  · exact app ks h
theorem nrk_merge {k : Nat} : ∀ (es : List (Str × List Str)) (ks : List (Key × D)), nrk k ks = true → nrk k (mergeD ks (es.map pairE)) = true
  | [], _, h => h
  | e :: r, ks, h => by
    rw [List.map_cons]
    exact nrk_merge r _ (nrk_put (by simp only [pairE, nr, nrs_str]) h)
def peopleD (es : List (Str × List Str)) : D := .dct (mergeD [] (es.map pairE))
theorem dict_ents {S : Store} {es : List (Str × List Str)} : dictF S [entsD es] = some (peopleD es, S) := by
  simp only [dictF, entsD, pairs_ents, Option.map_some, peopleD]
def fsD (w d : Int) (s e : Str) (es : List (Str × List Str)) : List (Nat × D) := [(8, hD w d s e), (4, .int 1), (9, peopleD es), (10, .lst []), (11, .lst []), (12, .dct [])]
section
variable {w d : Int} {s e : Str} {S : Store} {es : List (Str × List Str)}
theorem house_p : f_Waiting_house [wD w d s e es] S = .ok (hD w d s e, S) := by
  simp only [f_Waiting_house, b_Waiting_house, wD, fsW, eVar, eC, eBin, eBinR, eB, eTru, eNotT, eOrT, eAndT, eNot, eAnd, eOr, eIf, sSeq, sSet, sIf, sRet, sRetN, sExpr, sNil, sPar, sPar3, sAsg, sAsq, gTu, gCn, gN, gNl, qTu, qCn, qN, qNl, qSub, aCons, aNil, aApp, eTup, eLst, eCel, ofO, ofP, Res.bind, Res.out, Res.bind0, eCb, f1, f2, eCallP, eSl, eSlS, pNone, pSome, sSub, eFld, fnD, fnDC, startD, pick, eChain, eIsi, eProp, noX, eMt, eM0, sFor, iSeq, iRange1, iRange2, eDct0, onlyS, onlyB, addD_int, subD_int, ltD_int, gtD_int, leD_int, geD_int, ixD_tup, ixD_lst, ixD_scr, atI_0, atI_1, atI_2, atI_3, atI_4, atI_5, atI_6, atI_7, atI_8, toIntD_int, truD_bl, List.getElem?_cons_zero, List.getElem?_cons_succ, List.getElem?_nil, List.set_cons_zero, List.set_cons_succ, List.length_cons, List.length_nil, List.map_cons, List.map_nil, List.replicate, List.append_nil, List.nil_append, List.cons_append, List.filterMap_cons, List.filterMap_nil, Nat.sub_self, Nat.zero_add, Nat.reduceAdd, Nat.reduceSub, Option.map_some, Option.map_none, if_true, if_false, ite_true, ite_false, reduceIte, Bool.false_eq_true, Nat.reduceLeDiff, Nat.reduceLT, Int.reduceLE, Int.reduceLT, Int.reduceEq, Nat.reduceBEq, Nat.reduceEqDiff, beq_self_eq_true, Bool.and_self, Bool.and_true, Bool.true_and, Bool.not_true, Bool.not_false, Bool.or_true, Bool.true_or, Bool.false_or, Bool.or_false, Bool.and_false, Bool.false_and, decide_true, decide_false, dunE, fldsD_int, fldsD_str, fldsD_bl, fldsD_non, fldsD_lst, fldsD_tup, fldsD_scr, fldsD_dct, fldsD_ins, kdD_int, kdD_str, kdD_bl, kdD_non, kdD_lst, kdD_tup, kdD_scr, kdD_dct, kdD_ins, lenF_scr, lenF_lst, lenF_tup, listF_lst, listF_tup, listC_lst, listC_tup, tupleF_lst, tupleF_tup, eqD_int, eqD_bl, neD_int, isN_non, isN_int, isN_tup, strD_str, isT_lst, isT_str, seqL_lst, seqA_lst, seqA_tup, slD_lst, slD_tup, List.lookup, List.find?, eJs_nil, eJs_cons, eFmt_eq, sempty_app, eCmP, eMakeP, eMakeL, sFldD, Nat.reduceEqDiff, eqO, neO, bltD, Option.isSome_some, and_self, bne_self_eq_false, Bool.bne_false, Bool.bne_true, Bool.true_bne, Bool.false_bne]
  exact leave_id
theorem entries_p : f_Waiting_entries [wD w d s e es] S = .ok (entsD es, S) := by
  simp only [f_Waiting_entries, b_Waiting_entries, wD, fsW, eVar, eC, eBin, eBinR, eB, eTru, eNotT, eOrT, eAndT, eNot, eAnd, eOr, eIf, sSeq, sSet, sIf, sRet, sRetN, sExpr, sNil, sPar, sPar3, sAsg, sAsq, gTu, gCn, gN, gNl, qTu, qCn, qN, qNl, qSub, aCons, aNil, aApp, eTup, eLst, eCel, ofO, ofP, Res.bind, Res.out, Res.bind0, eCb, f1, f2, eCallP, eSl, eSlS, pNone, pSome, sSub, eFld, fnD, fnDC, startD, pick, eChain, eIsi, eProp, noX, eMt, eM0, sFor, iSeq, iRange1, iRange2, eDct0, onlyS, onlyB, addD_int, subD_int, ltD_int, gtD_int, leD_int, geD_int, ixD_tup, ixD_lst, ixD_scr, atI_0, atI_1, atI_2, atI_3, atI_4, atI_5, atI_6, atI_7, atI_8, toIntD_int, truD_bl, List.getElem?_cons_zero, List.getElem?_cons_succ, List.getElem?_nil, List.set_cons_zero, List.set_cons_succ, List.length_cons, List.length_nil, List.map_cons, List.map_nil, List.replicate, List.append_nil, List.nil_append, List.cons_append, List.filterMap_cons, List.filterMap_nil, Nat.sub_self, Nat.zero_add, Nat.reduceAdd, Nat.reduceSub, Option.map_some, Option.map_none, if_true, if_false, ite_true, ite_false, reduceIte, Bool.false_eq_true, Nat.reduceLeDiff, Nat.reduceLT, Int.reduceLE, Int.reduceLT, Int.reduceEq, Nat.reduceBEq, Nat.reduceEqDiff, beq_self_eq_true, Bool.and_self, Bool.and_true, Bool.true_and, Bool.not_true, Bool.not_false, Bool.or_true, Bool.true_or, Bool.false_or, Bool.or_false, Bool.and_false, Bool.false_and, decide_true, decide_false, dunE, fldsD_int, fldsD_str, fldsD_bl, fldsD_non, fldsD_lst, fldsD_tup, fldsD_scr, fldsD_dct, fldsD_ins, kdD_int, kdD_str, kdD_bl, kdD_non, kdD_lst, kdD_tup, kdD_scr, kdD_dct, kdD_ins, lenF_scr, lenF_lst, lenF_tup, listF_lst, listF_tup, listC_lst, listC_tup, tupleF_lst, tupleF_tup, eqD_int, eqD_bl, neD_int, isN_non, isN_int, isN_tup, strD_str, isT_lst, isT_str, seqL_lst, seqA_lst, seqA_tup, slD_lst, slD_tup, List.lookup, List.find?, eJs_nil, eJs_cons, eFmt_eq, sempty_app, eCmP, eMakeP, eMakeL, sFldD, Nat.reduceEqDiff, eqO, neO, bltD, Option.isSome_some, and_self, bne_self_eq_false, Bool.bne_false, Bool.bne_true, Bool.true_bne, Bool.false_bne]
  exact leave_id
theorem places_p : f_Waiting_places [wD w d s e es] S = .ok (.tup [], S) := by
  simp only [f_Waiting_places, b_Waiting_places, wD, fsW, eVar, eC, eBin, eBinR, eB, eTru, eNotT, eOrT, eAndT, eNot, eAnd, eOr, eIf, sSeq, sSet, sIf, sRet, sRetN, sExpr, sNil, sPar, sPar3, sAsg, sAsq, gTu, gCn, gN, gNl, qTu, qCn, qN, qNl, qSub, aCons, aNil, aApp, eTup, eLst, eCel, ofO, ofP, Res.bind, Res.out, Res.bind0, eCb, f1, f2, eCallP, eSl, eSlS, pNone, pSome, sSub, eFld, fnD, fnDC, startD, pick, eChain, eIsi, eProp, noX, eMt, eM0, sFor, iSeq, iRange1, iRange2, eDct0, onlyS, onlyB, addD_int, subD_int, ltD_int, gtD_int, leD_int, geD_int, ixD_tup, ixD_lst, ixD_scr, atI_0, atI_1, atI_2, atI_3, atI_4, atI_5, atI_6, atI_7, atI_8, toIntD_int, truD_bl, List.getElem?_cons_zero, List.getElem?_cons_succ, List.getElem?_nil, List.set_cons_zero, List.set_cons_succ, List.length_cons, List.length_nil, List.map_cons, List.map_nil, List.replicate, List.append_nil, List.nil_append, List.cons_append, List.filterMap_cons, List.filterMap_nil, Nat.sub_self, Nat.zero_add, Nat.reduceAdd, Nat.reduceSub, Option.map_some, Option.map_none, if_true, if_false, ite_true, ite_false, reduceIte, Bool.false_eq_true, Nat.reduceLeDiff, Nat.reduceLT, Int.reduceLE, Int.reduceLT, Int.reduceEq, Nat.reduceBEq, Nat.reduceEqDiff, beq_self_eq_true, Bool.and_self, Bool.and_true, Bool.true_and, Bool.not_true, Bool.not_false, Bool.or_true, Bool.true_or, Bool.false_or, Bool.or_false, Bool.and_false, Bool.false_and, decide_true, decide_false, dunE, fldsD_int, fldsD_str, fldsD_bl, fldsD_non, fldsD_lst, fldsD_tup, fldsD_scr, fldsD_dct, fldsD_ins, kdD_int, kdD_str, kdD_bl, kdD_non, kdD_lst, kdD_tup, kdD_scr, kdD_dct, kdD_ins, lenF_scr, lenF_lst, lenF_tup, listF_lst, listF_tup, listC_lst, listC_tup, tupleF_lst, tupleF_tup, eqD_int, eqD_bl, neD_int, isN_non, isN_int, isN_tup, strD_str, isT_lst, isT_str, seqL_lst, seqA_lst, seqA_tup, slD_lst, slD_tup, List.lookup, List.find?, eJs_nil, eJs_cons, eFmt_eq, sempty_app, eCmP, eMakeP, eMakeL, sFldD, Nat.reduceEqDiff, eqO, neO, bltD, Option.isSome_some, and_self, bne_self_eq_false, Bool.bne_false, Bool.bne_true, Bool.true_bne, Bool.false_bne]
  exact leave_id
theorem day_p : f_Waiting_day [wD w d s e es] S = .ok (.int 1, S) := by
  simp only [f_Waiting_day, b_Waiting_day, wD, fsW, eVar, eC, eBin, eBinR, eB, eTru, eNotT, eOrT, eAndT, eNot, eAnd, eOr, eIf, sSeq, sSet, sIf, sRet, sRetN, sExpr, sNil, sPar, sPar3, sAsg, sAsq, gTu, gCn, gN, gNl, qTu, qCn, qN, qNl, qSub, aCons, aNil, aApp, eTup, eLst, eCel, ofO, ofP, Res.bind, Res.out, Res.bind0, eCb, f1, f2, eCallP, eSl, eSlS, pNone, pSome, sSub, eFld, fnD, fnDC, startD, pick, eChain, eIsi, eProp, noX, eMt, eM0, sFor, iSeq, iRange1, iRange2, eDct0, onlyS, onlyB, addD_int, subD_int, ltD_int, gtD_int, leD_int, geD_int, ixD_tup, ixD_lst, ixD_scr, atI_0, atI_1, atI_2, atI_3, atI_4, atI_5, atI_6, atI_7, atI_8, toIntD_int, truD_bl, List.getElem?_cons_zero, List.getElem?_cons_succ, List.getElem?_nil, List.set_cons_zero, List.set_cons_succ, List.length_cons, List.length_nil, List.map_cons, List.map_nil, List.replicate, List.append_nil, List.nil_append, List.cons_append, List.filterMap_cons, List.filterMap_nil, Nat.sub_self, Nat.zero_add, Nat.reduceAdd, Nat.reduceSub, Option.map_some, Option.map_none, if_true, if_false, ite_true, ite_false, reduceIte, Bool.false_eq_true, Nat.reduceLeDiff, Nat.reduceLT, Int.reduceLE, Int.reduceLT, Int.reduceEq, Nat.reduceBEq, Nat.reduceEqDiff, beq_self_eq_true, Bool.and_self, Bool.and_true, Bool.true_and, Bool.not_true, Bool.not_false, Bool.or_true, Bool.true_or, Bool.false_or, Bool.or_false, Bool.and_false, Bool.false_and, decide_true, decide_false, dunE, fldsD_int, fldsD_str, fldsD_bl, fldsD_non, fldsD_lst, fldsD_tup, fldsD_scr, fldsD_dct, fldsD_ins, kdD_int, kdD_str, kdD_bl, kdD_non, kdD_lst, kdD_tup, kdD_scr, kdD_dct, kdD_ins, lenF_scr, lenF_lst, lenF_tup, listF_lst, listF_tup, listC_lst, listC_tup, tupleF_lst, tupleF_tup, eqD_int, eqD_bl, neD_int, isN_non, isN_int, isN_tup, strD_str, isT_lst, isT_str, seqL_lst, seqA_lst, seqA_tup, slD_lst, slD_tup, List.lookup, List.find?, eJs_nil, eJs_cons, eFmt_eq, sempty_app, eCmP, eMakeP, eMakeL, sFldD, Nat.reduceEqDiff, eqO, neO, bltD, Option.isSome_some, and_self, bne_self_eq_false, Bool.bne_false, Bool.bne_true, Bool.true_bne, Bool.false_bne]
  exact leave_id
theorem dinit_ok {T : Store} {L : Nat} (hL : T.length = L) : f_Dayzz_initzz [.ref L, hD w d s e, .int 1, entsD es, .tup [], .tup []] (T ++ [.ins 2 []]) = .ok (.non, T ++ [.ins 2 (fsD w d s e es)]) := by
  have g : ∀ {fs i d}, fs.length < 1000 → setFD (T ++ [Cell.ins 2 fs]) (.ref L) i d = some (T ++ [.ins 2 (putN i d fs)]) := fun {fs i d} hl => by rw [setFD_ref (get_end hL) hl, set_end hL]
  have e1 : ∀ (x0 x1 x2 x3 x5 x6 : Option D) (Z : Store), eLc (iSeq (eVar 4)) [6] (gN 6) eYes eBad [x0, x1, x2, x3, some (.tup []), x5, x6] Z = .ok (.lst [], Z) := fun _ _ _ _ _ _ _ => rfl
  simp (disch := simp) only [f_Dayzz_initzz, b_Dayzz_initzz, eVar, eC, eBin, eBinR, eB, eTru, eNotT, eOrT, eAndT, eNot, eAnd, eOr, eIf, sSeq, sSet, sIf, sRet, sRetN, sExpr, sNil, sPar, sPar3, sAsg, sAsq, gTu, gCn, gN, gNl, qTu, qCn, qN, qNl, qSub, aCons, aNil, aApp, eTup, eLst, eCel, ofO, ofP, Res.bind, Res.out, Res.bind0, eCb, f1, f2, eCallP, eSl, eSlS, pNone, pSome, sSub, eFld, fnD, fnDC, startD, pick, eChain, eIsi, eProp, noX, eMt, eM0, sFor, iSeq, iRange1, iRange2, eDct0, onlyS, onlyB, addD_int, subD_int, ltD_int, gtD_int, leD_int, geD_int, ixD_tup, ixD_lst, ixD_scr, atI_0, atI_1, atI_2, atI_3, atI_4, atI_5, atI_6, atI_7, atI_8, toIntD_int, truD_bl, List.getElem?_cons_zero, List.getElem?_cons_succ, List.getElem?_nil, List.set_cons_zero, List.set_cons_succ, List.length_cons, List.length_nil, List.map_cons, List.map_nil, List.replicate, List.append_nil, List.nil_append, List.cons_append, List.filterMap_cons, List.filterMap_nil, Nat.sub_self, Nat.zero_add, Nat.reduceAdd, Nat.reduceSub, Option.map_some, Option.map_none, if_true, if_false, ite_true, ite_false, reduceIte, Bool.false_eq_true, Nat.reduceLeDiff, Nat.reduceLT, Int.reduceLE, Int.reduceLT, Int.reduceEq, Nat.reduceBEq, Nat.reduceEqDiff, beq_self_eq_true, Bool.and_self, Bool.and_true, Bool.true_and, Bool.not_true, Bool.not_false, Bool.or_true, Bool.true_or, Bool.false_or, Bool.or_false, Bool.and_false, Bool.false_and, decide_true, decide_false, dunE, fldsD_int, fldsD_str, fldsD_bl, fldsD_non, fldsD_lst, fldsD_tup, fldsD_scr, fldsD_dct, fldsD_ins, kdD_int, kdD_str, kdD_bl, kdD_non, kdD_lst, kdD_tup, kdD_scr, kdD_dct, kdD_ins, lenF_scr, lenF_lst, lenF_tup, listF_lst, listF_tup, listC_lst, listC_tup, tupleF_lst, tupleF_tup, eqD_int, eqD_bl, neD_int, isN_non, isN_int, isN_tup, strD_str, isT_lst, isT_str, seqL_lst, seqA_lst, seqA_tup, slD_lst, slD_tup, List.lookup, List.find?, eJs_nil, eJs_cons, eFmt_eq, sempty_app, eCmP, eMakeP, eMakeL, sFldD, Nat.reduceEqDiff, eqO, neO, bltD, Option.isSome_some, and_self, bne_self_eq_false, Bool.bne_false, Bool.bne_true, Bool.true_bne, Bool.false_bne, dict_ents, e1, List.length_append, g, Pd.putN, Nat.reduceEqDiff]
  rw [Pd.leave_same (by simp)]
  rfl
theorem leave_d {T : Store} {L : Nat} (hL : T.length = L) : leave T (.ref L) (T ++ [.ins 2 (fsD w d s e es)]) = .ok (.ins 2 (fsD w d s e es), T) :=
  leave_ins hL rfl (oldOk_refl _ _ _) (by simp only [fsD, nrf, nr, hD, fsH, peopleD, nrk_merge es [] rfl, nrs, nrk, Bool.and_self])
theorem day_ok : f_day_of [wD w d s e es] S = .ok (.ins 2 (fsD w d s e es), S) := by
  simp only [f_day_of, b_day_of, eVar, eC, eBin, eBinR, eB, eTru, eNotT, eOrT, eAndT, eNot, eAnd, eOr, eIf, sSeq, sSet, sIf, sRet, sRetN, sExpr, sNil, sPar, sPar3, sAsg, sAsq, gTu, gCn, gN, gNl, qTu, qCn, qN, qNl, qSub, aCons, aNil, aApp, eTup, eLst, eCel, ofO, ofP, Res.bind, Res.out, Res.bind0, eCb, f1, f2, eCallP, eSl, eSlS, pNone, pSome, sSub, eFld, fnD, fnDC, startD, pick, eChain, eIsi, eProp, noX, eMt, eM0, sFor, iSeq, iRange1, iRange2, eDct0, onlyS, onlyB, addD_int, subD_int, ltD_int, gtD_int, leD_int, geD_int, ixD_tup, ixD_lst, ixD_scr, atI_0, atI_1, atI_2, atI_3, atI_4, atI_5, atI_6, atI_7, atI_8, toIntD_int, truD_bl, List.getElem?_cons_zero, List.getElem?_cons_succ, List.getElem?_nil, List.set_cons_zero, List.set_cons_succ, List.length_cons, List.length_nil, List.map_cons, List.map_nil, List.replicate, List.append_nil, List.nil_append, List.cons_append, List.filterMap_cons, List.filterMap_nil, Nat.sub_self, Nat.zero_add, Nat.reduceAdd, Nat.reduceSub, Option.map_some, Option.map_none, if_true, if_false, ite_true, ite_false, reduceIte, Bool.false_eq_true, Nat.reduceLeDiff, Nat.reduceLT, Int.reduceLE, Int.reduceLT, Int.reduceEq, Nat.reduceBEq, Nat.reduceEqDiff, beq_self_eq_true, Bool.and_self, Bool.and_true, Bool.true_and, Bool.not_true, Bool.not_false, Bool.or_true, Bool.true_or, Bool.false_or, Bool.or_false, Bool.and_false, Bool.false_and, decide_true, decide_false, dunE, fldsD_int, fldsD_str, fldsD_bl, fldsD_non, fldsD_lst, fldsD_tup, fldsD_scr, fldsD_dct, fldsD_ins, kdD_int, kdD_str, kdD_bl, kdD_non, kdD_lst, kdD_tup, kdD_scr, kdD_dct, kdD_ins, lenF_scr, lenF_lst, lenF_tup, listF_lst, listF_tup, listC_lst, listC_tup, tupleF_lst, tupleF_tup, eqD_int, eqD_bl, neD_int, isN_non, isN_int, isN_tup, strD_str, isT_lst, isT_str, seqL_lst, seqA_lst, seqA_tup, slD_lst, slD_tup, List.lookup, List.find?, eJs_nil, eJs_cons, eFmt_eq, sempty_app, eCmP, eMakeP, eMakeL, sFldD, Nat.reduceEqDiff, eqO, neO, bltD, Option.isSome_some, and_self, bne_self_eq_false, Bool.bne_false, Bool.bne_true, Bool.true_bne, Bool.false_bne, fldsD_wD, house_p, day_p, entries_p, places_p, fsW, dinit_ok rfl, leave_d rfl]
  exact leave_id
theorem morning_ok : f_morning [.ins 2 (fsD w d s e es)] S = .ok (.lst [], S) := by
  refine fn_rt (d := .ref S.length) (S' := S ++ [.lst []]) ?_ (leave_list rfl rfl (oldOk_refl _ _ _) rfl)
  rfl
theorem asked_ok : f_Waiting_asked_next [wD w d s e es] S = .ok (.tup [], S) := by
  simp only [f_Waiting_asked_next, b_Waiting_asked_next, eVar, eC, eBin, eBinR, eB, eTru, eNotT, eOrT, eAndT, eNot, eAnd, eOr, eIf, sSeq, sSet, sIf, sRet, sRetN, sExpr, sNil, sPar, sPar3, sAsg, sAsq, gTu, gCn, gN, gNl, qTu, qCn, qN, qNl, qSub, aCons, aNil, aApp, eTup, eLst, eCel, ofO, ofP, Res.bind, Res.out, Res.bind0, eCb, f1, f2, eCallP, eSl, eSlS, pNone, pSome, sSub, eFld, fnD, fnDC, startD, pick, eChain, eIsi, eProp, noX, eMt, eM0, sFor, iSeq, iRange1, iRange2, eDct0, onlyS, onlyB, addD_int, subD_int, ltD_int, gtD_int, leD_int, geD_int, ixD_tup, ixD_lst, ixD_scr, atI_0, atI_1, atI_2, atI_3, atI_4, atI_5, atI_6, atI_7, atI_8, toIntD_int, truD_bl, List.getElem?_cons_zero, List.getElem?_cons_succ, List.getElem?_nil, List.set_cons_zero, List.set_cons_succ, List.length_cons, List.length_nil, List.map_cons, List.map_nil, List.replicate, List.append_nil, List.nil_append, List.cons_append, List.filterMap_cons, List.filterMap_nil, Nat.sub_self, Nat.zero_add, Nat.reduceAdd, Nat.reduceSub, Option.map_some, Option.map_none, if_true, if_false, ite_true, ite_false, reduceIte, Bool.false_eq_true, Nat.reduceLeDiff, Nat.reduceLT, Int.reduceLE, Int.reduceLT, Int.reduceEq, Nat.reduceBEq, Nat.reduceEqDiff, beq_self_eq_true, Bool.and_self, Bool.and_true, Bool.true_and, Bool.not_true, Bool.not_false, Bool.or_true, Bool.true_or, Bool.false_or, Bool.or_false, Bool.and_false, Bool.false_and, decide_true, decide_false, dunE, fldsD_int, fldsD_str, fldsD_bl, fldsD_non, fldsD_lst, fldsD_tup, fldsD_scr, fldsD_dct, fldsD_ins, kdD_int, kdD_str, kdD_bl, kdD_non, kdD_lst, kdD_tup, kdD_scr, kdD_dct, kdD_ins, lenF_scr, lenF_lst, lenF_tup, listF_lst, listF_tup, listC_lst, listC_tup, tupleF_lst, tupleF_tup, eqD_int, eqD_bl, neD_int, isN_non, isN_int, isN_tup, strD_str, isT_lst, isT_str, seqL_lst, seqA_lst, seqA_tup, slD_lst, slD_tup, List.lookup, List.find?, eJs_nil, eJs_cons, eFmt_eq, sempty_app, eCmP, eMakeP, eMakeL, sFldD, Nat.reduceEqDiff, eqO, neO, bltD, Option.isSome_some, and_self, bne_self_eq_false, Bool.bne_false, Bool.bne_true, Bool.true_bne, Bool.false_bne, day_ok, morning_ok]
  exact leave_id
theorem shown_ok : f__law_shown [wD w d s e es] S = .ok (.lst [entsD es, .tup [], .int 1, .tup [], .tup []], S) := by
  simp only [f__law_shown, b__law_shown, eVar, eC, eBin, eBinR, eB, eTru, eNotT, eOrT, eAndT, eNot, eAnd, eOr, eIf, sSeq, sSet, sIf, sRet, sRetN, sExpr, sNil, sPar, sPar3, sAsg, sAsq, gTu, gCn, gN, gNl, qTu, qCn, qN, qNl, qSub, aCons, aNil, aApp, eTup, eLst, eCel, ofO, ofP, Res.bind, Res.out, Res.bind0, eCb, f1, f2, eCallP, eSl, eSlS, pNone, pSome, sSub, eFld, fnD, fnDC, startD, pick, eChain, eIsi, eProp, noX, eMt, eM0, sFor, iSeq, iRange1, iRange2, eDct0, onlyS, onlyB, addD_int, subD_int, ltD_int, gtD_int, leD_int, geD_int, ixD_tup, ixD_lst, ixD_scr, atI_0, atI_1, atI_2, atI_3, atI_4, atI_5, atI_6, atI_7, atI_8, toIntD_int, truD_bl, List.getElem?_cons_zero, List.getElem?_cons_succ, List.getElem?_nil, List.set_cons_zero, List.set_cons_succ, List.length_cons, List.length_nil, List.map_cons, List.map_nil, List.replicate, List.append_nil, List.nil_append, List.cons_append, List.filterMap_cons, List.filterMap_nil, Nat.sub_self, Nat.zero_add, Nat.reduceAdd, Nat.reduceSub, Option.map_some, Option.map_none, if_true, if_false, ite_true, ite_false, reduceIte, Bool.false_eq_true, Nat.reduceLeDiff, Nat.reduceLT, Int.reduceLE, Int.reduceLT, Int.reduceEq, Nat.reduceBEq, Nat.reduceEqDiff, beq_self_eq_true, Bool.and_self, Bool.and_true, Bool.true_and, Bool.not_true, Bool.not_false, Bool.or_true, Bool.true_or, Bool.false_or, Bool.or_false, Bool.and_false, Bool.false_and, decide_true, decide_false, dunE, fldsD_int, fldsD_str, fldsD_bl, fldsD_non, fldsD_lst, fldsD_tup, fldsD_scr, fldsD_dct, fldsD_ins, kdD_int, kdD_str, kdD_bl, kdD_non, kdD_lst, kdD_tup, kdD_scr, kdD_dct, kdD_ins, lenF_scr, lenF_lst, lenF_tup, listF_lst, listF_tup, listC_lst, listC_tup, tupleF_lst, tupleF_tup, eqD_int, eqD_bl, neD_int, isN_non, isN_int, isN_tup, strD_str, isT_lst, isT_str, seqL_lst, seqA_lst, seqA_tup, slD_lst, slD_tup, List.lookup, List.find?, eJs_nil, eJs_cons, eFmt_eq, sempty_app, eCmP, eMakeP, eMakeL, sFldD, Nat.reduceEqDiff, eqO, neO, bltD, Option.isSome_some, and_self, bne_self_eq_false, Bool.bne_false, Bool.bne_true, Bool.true_bne, Bool.false_bne, eMethP, fldsD_wD, entries_p, places_p, day_p, asked_ok, fsW]
  exact leave_id
/-! ### its text -/
theorem ln5 : Str.length "Waiting of " = 11 := by decide +kernel
theorem ln6 : Str.length " entries on day " = 16 := by decide +kernel
theorem ln7 : Str.length " entries on day 1" = 17 := by decide +kernel
def wtxt (n : Nat) : Str := ("Waiting of " : Str) ++ istr n ++ (" entries on day 1" : Str)
theorem wtxt_ok {n : Nat} : PyData.strOk (wtxt n) = true := strOk_app (strOk_app (strOk_lit _) (strOk_istr _)) (strOk_lit _)
theorem log31 {n : Nat} (h : n ≤ 40) : (n : Int).natAbs.log2 < 1920 := by
  have : n < 2 ^ 1920 := Nat.lt_of_le_of_lt h (by decide +kernel)
  rw [Int.natAbs_natCast]
  by_cases z : n = 0
  · subst z; decide
  · exact (Nat.log2_lt z).mpr this
theorem len31 {n : Nat} (h : n ≤ 40) : (istr (n : Int)).length ≤ 10 := by
  have : ∀ m : Nat, m < 41 → (istr (m : Int)).length ≤ 10 := by decide +kernel
  exact this n (by omega)
theorem day1 : (" entries on day " : Str) ++ istr 1 = " entries on day 1" := by decide +kernel
theorem wrepr_ok (he : EntsOk es) : f_Waitingzz_reprzz [wD w d s e es] S = .ok (.str (wtxt es.length), S) := by
  have h30 := he.thirty
  have a1 := len31 (n := es.length) (by omega)
  have a2 := log31 (n := es.length) (by omega)
  have a3 : Int.natAbs 1 < 2 := by decide
  have a4 : (1 : Int).natAbs.log2 < 1920 := by decide
  have a5 : (istr 1).length = 1 := by decide +kernel
  have ln : lenF S [entsD es] = some (.int (es.length : Nat), S) := by
    simp only [entsD, lenF_tup, List.length_map]
  have e : Str.empty ++ ("Waiting of " : Str) ++ istr (es.length : Nat) ++ (" entries on day " : Str) ++ istr 1 = wtxt es.length := by
    rw [sempty_app, sapp_assoc, sapp_assoc, day1, wtxt, sapp_assoc]
  simp (disch := (first | omega | (simp only [slen_app, slen_empty, ln5, ln6, a5]; omega))) only [f_Waitingzz_reprzz, b_Waitingzz_reprzz, wD, fsW, eVar, eC, eBin, eBinR, eB, eTru, eNotT, eOrT, eAndT, eNot, eAnd, eOr, eIf, sSeq, sSet, sIf, sRet, sRetN, sExpr, sNil, sPar, sPar3, sAsg, sAsq, gTu, gCn, gN, gNl, qTu, qCn, qN, qNl, qSub, aCons, aNil, aApp, eTup, eLst, eCel, ofO, ofP, Res.bind, Res.out, Res.bind0, eCb, f1, f2, eCallP, eSl, eSlS, pNone, pSome, sSub, eFld, fnD, fnDC, startD, pick, eChain, eIsi, eProp, noX, eMt, eM0, sFor, iSeq, iRange1, iRange2, eDct0, onlyS, onlyB, addD_int, subD_int, ltD_int, gtD_int, leD_int, geD_int, ixD_tup, ixD_lst, ixD_scr, atI_0, atI_1, atI_2, atI_3, atI_4, atI_5, atI_6, atI_7, atI_8, toIntD_int, truD_bl, List.getElem?_cons_zero, List.getElem?_cons_succ, List.getElem?_nil, List.set_cons_zero, List.set_cons_succ, List.length_cons, List.length_nil, List.map_cons, List.map_nil, List.replicate, List.append_nil, List.nil_append, List.cons_append, List.filterMap_cons, List.filterMap_nil, Nat.sub_self, Nat.zero_add, Nat.reduceAdd, Nat.reduceSub, Option.map_some, Option.map_none, if_true, if_false, ite_true, ite_false, reduceIte, Bool.false_eq_true, Nat.reduceLeDiff, Nat.reduceLT, Int.reduceLE, Int.reduceLT, Int.reduceEq, Nat.reduceBEq, Nat.reduceEqDiff, beq_self_eq_true, Bool.and_self, Bool.and_true, Bool.true_and, Bool.not_true, Bool.not_false, Bool.or_true, Bool.true_or, Bool.false_or, Bool.or_false, Bool.and_false, Bool.false_and, decide_true, decide_false, dunE, fldsD_int, fldsD_str, fldsD_bl, fldsD_non, fldsD_lst, fldsD_tup, fldsD_scr, fldsD_dct, fldsD_ins, kdD_int, kdD_str, kdD_bl, kdD_non, kdD_lst, kdD_tup, kdD_scr, kdD_dct, kdD_ins, lenF_scr, lenF_lst, lenF_tup, listF_lst, listF_tup, listC_lst, listC_tup, tupleF_lst, tupleF_tup, eqD_int, eqD_bl, neD_int, isN_non, isN_int, isN_tup, strD_str, isT_lst, isT_str, seqL_lst, seqA_lst, seqA_tup, slD_lst, slD_tup, List.lookup, List.find?, eJs_nil, eJs_cons, eFmt_eq, sempty_app, eCmP, eMakeP, eMakeL, sFldD, Nat.reduceEqDiff, eqO, neO, bltD, Option.isSome_some, and_self, bne_self_eq_false, Bool.bne_false, Bool.bne_true, Bool.true_bne, Bool.false_bne, ln, eJsK_str, fmtK_str, fmtK_int a2, fmtK_int a4]
  rw [← e]
  exact leave_id
theorem led_ok : f_Waiting_led [wD w d s e es, .tup []] S = .ok (wD w d s e es, S) := by
  refine fn_rt (d := wD w d s e es) (S' := S) ?_ leave_id
  rfl
end
end K05
end
section
namespace K05
open PySem PySem.Spec PyProof.Rows L2 Pd
abbrev WT := Int × Int × Str × Str × List (Str × List Str)
def wT (x : WT) : D := wD x.1 x.2.1 x.2.2.1 x.2.2.2.1 x.2.2.2.2
structure WOk (x : WT) : Prop where
  h : Ok x.1 x.2.1 x.2.2.1 x.2.2.2.1
  e : EntsOk x.2.2.2.2
theorem index_w {S : Store} {s : Str} (h : IsW s) : ∃ j : Nat, j < 3 ∧ indexF S (.lst [.str "keep", .str "back", .str "out"]) [.str s] = some (.int j, S) ∧ ∀ k : Int, 0 ≤ k → k < 2 → ∃ s', atI [D.str "keep", .str "back", .str "out"] ((j + 1 + k) % 3) = some (.str s') ∧ IsW s' ∧ s ≠ s' := by
  rcases h with rfl | rfl | rfl
  · refine ⟨0, by omega, by kernel_rfl, fun k h0 h1 => ?_⟩
    have : k = 0 ∨ k = 1 := by omega
    rcases this with rfl | rfl
    · exact ⟨"back", rfl, .inr (.inl rfl), by decide +kernel⟩
    · exact ⟨"out", rfl, .inr (.inr rfl), by decide +kernel⟩
  · refine ⟨1, by omega, by kernel_rfl, fun k h0 h1 => ?_⟩
    have : k = 0 ∨ k = 1 := by omega
    rcases this with rfl | rfl
    · exact ⟨"out", rfl, .inr (.inr rfl), by decide +kernel⟩
    · exact ⟨"keep", rfl, .inl rfl, by decide +kernel⟩
  · refine ⟨2, by omega, by kernel_rfl, fun k h0 h1 => ?_⟩
    have : k = 0 ∨ k = 1 := by omega
    rcases this with rfl | rfl
    · exact ⟨"keep", rfl, .inl rfl, by decide +kernel⟩
    · exact ⟨"back", rfl, .inr (.inl rfl), by decide +kernel⟩
theorem nameA : NameS "a" := ⟨97, [], by decide +kernel, by simp, ⟨by omega, by omega⟩, by simp⟩
theorem nameB : NameS "b" := ⟨98, [], by decide +kernel, by simp, ⟨by omega, by omega⟩, by simp⟩
theorem lotA : LotN [("a" : Str)] := ⟨by simp, by simp, by simp, by simp [nameA]⟩
theorem lotB : LotN [("b" : Str)] := ⟨by simp, by simp, by simp, by simp [nameB]⟩
/-! entries with one more, one less, one otherwise, turned -/
theorem ents_more {es : List (Str × List Str)} {z : Str} (h : EntsOk es) (h30 : es.length < 30) (hz : NameS z) (n : z ∉ es.map (·.1)) : EntsOk (es ++ [(z, ([("a" : Str)] : List Str))]) where
  thirty := by simp; omega
  nd := by
    rw [List.map_append, List.nodup_append]
    refine ⟨h.nd, by simp, fun a ha b hb => ?_⟩
    have : b = z := by simpa using hb
    subst this
    exact fun q => n (q ▸ ha)
  nm := fun e m => (List.mem_append.mp m).elim (h.nm e) fun m => by rw [List.mem_singleton.mp m]; exact hz
  lot := fun e m => (List.mem_append.mp m).elim (h.lot e) fun m => by rw [List.mem_singleton.mp m]; exact lotA
theorem ents_sub {es fs : List (Str × List Str)} (h : EntsOk es) (s : fs.Sublist es) : EntsOk fs where
  thirty := Nat.le_trans s.length_le h.thirty
  nd := h.nd.sublist (s.map _)
  nm := fun e m => h.nm e (s.subset m)
  lot := fun e m => h.lot e (s.subset m)
theorem ents_perm {es fs : List (Str × List Str)} (h : EntsOk es) (p : fs.Perm es) : EntsOk fs where
  thirty := by rw [p.length_eq]; exact h.thirty
  nd := (p.map _).nodup_iff.mpr h.nd
  nm := fun e m => h.nm e (p.mem_iff.mp m)
  lot := fun e m => h.lot e (p.mem_iff.mp m)
theorem split_at {es : List (Str × List Str)} {k : Nat} (hk : k < es.length) : es = es.take k ++ [es[k]] ++ es.drop (k + 1) := by
  rw [List.append_assoc, List.singleton_append, ← List.drop_eq_getElem_cons hk, List.take_append_drop]
theorem ents_other {es : List (Str × List Str)} {k : Nat} {l : List Str} (h : EntsOk es) (hk : k < es.length) (hl : LotN l) : EntsOk (es.take k ++ [(es[k].1, l)] ++ es.drop (k + 1)) where
  thirty := by have := h.thirty; simp; omega
  nd := by
    have e : (es.take k ++ [(es[k].1, l)] ++ es.drop (k + 1)).map (·.1) = es.map (·.1) := by
      have e2 := congrArg (List.map (·.1)) (split_at hk)
      simp only [List.map_append, List.map_cons, List.map_nil] at e2 ⊢
      exact e2.symm
    rw [e]; exact h.nd
  nm := fun e m => by
    rcases List.mem_append.mp m with m | m
    · rcases List.mem_append.mp m with m | m
      · exact h.nm e (List.mem_of_mem_take m)
      · have q := List.mem_singleton.mp m
        subst q
        exact h.nm es[k] (List.getElem_mem hk)
    · exact h.nm e (List.mem_of_mem_drop m)
  lot := fun e m => by
    rcases List.mem_append.mp m with m | m
    · rcases List.mem_append.mp m with m | m
      · exact h.lot e (List.mem_of_mem_take m)
      · rw [List.mem_singleton.mp m]; exact hl
    · exact h.lot e (List.mem_of_mem_drop m)
theorem less_sub {es : List (Str × List Str)} {k : Nat} : (es.take k ++ es.drop (k + 1)).Sublist es := by
  have := (List.Sublist.refl (es.take k)).append (List.drop_sublist 1 (es.drop k))
  rw [List.drop_drop, List.take_append_drop] at this
  exact this
theorem less_ne {es : List (Str × List Str)} {k : Nat} (hk : k < es.length) : es.take k ++ es.drop (k + 1) ≠ es := fun h => by
  have := congrArg List.length h
  simp at this
  omega
theorem other_ne {es : List (Str × List Str)} {k : Nat} {l : List Str} (hk : k < es.length) (n : l ≠ es[k].2) : es.take k ++ [(es[k].1, l)] ++ es.drop (k + 1) ≠ es := fun h => by
  have e1 : (es.take k ++ [(es[k].1, l)] ++ es.drop (k + 1))[k]? = some (es[k].1, l) := by
    rw [List.getElem?_append_left (by simp; omega), List.getElem?_append_right (by simp; omega)]
    simp [Nat.min_eq_left (Nat.le_of_lt hk)]
  rw [h, List.getElem?_eq_getElem hk] at e1
  have := congrArg Prod.snd (Option.some.inj e1)
  exact n this.symm
theorem turn_ne {es : List (Str × List Str)} (h : EntsOk es) (h1 : 1 < es.length) : es.drop 1 ++ es.take 1 ≠ es := fun q => by
  match es, h, h1 with
  | a :: b :: r, h, _ =>
    have : b = a := by simpa using congrArg List.head? q
    subst this
    have := h.nd
    simp at this
theorem turn_perm {es : List (Str × List Str)} : (es.drop 1 ++ es.take 1).Perm es := by
  have := List.perm_append_comm (l₁ := es.drop 1) (l₂ := es.take 1)
  rw [List.take_append_drop] at this
  exact this
/-! slices -/
theorem cut_take {es : List (Str × List Str)} {k : Nat} (h : k ≤ es.length) {S : Store} : slD S (entsD es) none (some (k : Int)) = some (entsD (es.take k)) := by
  simp only [entsD, slD_tup]
  rw [cutD_to (by simpa using h), List.map_take]
theorem cut_drop {es : List (Str × List Str)} {k : Nat} (h : k ≤ es.length) {S : Store} : slD S (entsD es) (some (k : Int)) none = some (entsD (es.drop k)) := by
  simp only [entsD, slD_tup]
  rw [cutD_from (by simpa using h), List.map_drop]
theorem add_ents {es fs : List (Str × List Str)} {S : Store} (h : es.length + fs.length ≤ 100) : addD S (entsD es) (entsD fs) = some (entsD (es ++ fs)) := by
  simp only [entsD]
  rw [addD_tup (by simp only [List.length_map]; omega), List.map_append]
end K05
end
section
namespace K05
open PySem PySem.Spec PyProof.Rows L2 Pd
def nl_0 : EvS := (sSet 3 (eLst (aCons (eC (.str "keep")) (aCons (eC (.str "back")) (aCons (eC (.str "out")) aNil)))))
def nl_1 : EvS := (sSet 4 (eBin ixD (eVar 3) (eBin modD (eCb (f1 toIntD) (aCons (eBin addD (eBin addD (eMt "list" indexF (eVar 3) (aCons (eBin ixD (eVar 1) (eC (.int 2))) aNil)) (eC (.int 1))) (eCallP 2 0 f__law_pick [] [0, 1] 2 (aCons (eVar 0) (aCons (eC (.int 2)) aNil)) aNil)) aNil)) (eC (.int 3)))))
def nl_2 : EvS := (sSet 5 (eCel (aCons (eMakeP 3 2 0 f_Waitingzz_initzz [] [0, 1, 2] 3 (aCons (eMakeP 0 4 0 f_Housezz_initzz [(.str "keep"), (.str "keep")] [0, 1, 2, 3, 4] 5 (aCons (eBin ixD (eVar 1) (eC (.int 0))) (aCons (eBin ixD (eVar 1) (eC (.int 1))) (aCons (eVar 4) (aCons (eBin ixD (eVar 1) (eC (.int 3))) aNil)))) aNil) (aCons (eVar 2) aNil)) aNil) aNil)))
def nl_3 : EvS := (sExpr (eMt "list" appendF (eVar 5) (aCons (eMakeP 3 2 0 f_Waitingzz_initzz [] [0, 1, 2] 3 (aCons (eCallP 1 0 f__law_house [] [0] 1 (aCons (eLst (aCons (eBin addD (eBin modD (eCb (f1 toIntD) (aCons (eBin ixD (eVar 1) (eC (.int 0))) aNil)) (eC (.int 3))) (eC (.int 1))) (aCons (eBin ixD (eVar 1) (eC (.int 1))) (aCons (eBin ixD (eVar 1) (eC (.int 2))) (aCons (eBin ixD (eVar 1) (eC (.int 3))) aNil))))) aNil) aNil) (aCons (eVar 2) aNil)) aNil) aNil)))
def nl_4 : EvS := (sIf (eB (eBin ltD (eCb lenF (aCons (eVar 2) aNil)) (eC (.int 30)))) (sExpr (eMt "list" appendF (eVar 5) (aCons (eMakeP 3 2 0 f_Waitingzz_initzz [] [0, 1, 2] 3 (aCons (eCallP 1 0 f__law_house [] [0] 1 (aCons (eVar 1) aNil) aNil) (aCons (eBin addD (eVar 2) (eTup (aCons (eTup (aCons (eCallP 1 0 f__law_spare [] [0] 1 (aCons (eLc (iSeq (eVar 2)) [6, 7] (gTu 2 (gCn (gN 6) (gCn (gN 7) gNl))) eYes (eVar 6)) aNil) aNil) (aCons (eTup (aCons (eC (.str "a")) aNil)) aNil))) aNil))) aNil)) aNil) aNil))) sNil)
def nl_5b_0 : EvS := (sSet 8 (eCallP 2 0 f__law_pick [] [0, 1] 2 (aCons (eVar 0) (aCons (eCb lenF (aCons (eVar 2) aNil)) aNil)) aNil))
def nl_5b_1 : EvS := (sAsg (eBin ixD (eVar 2) (eVar 8)) (gTu 2 (gCn (gN 6) (gCn (gN 9) gNl))))
def nl_5b_2 : EvS := (sExpr (eMt "list" appendF (eVar 5) (aCons (eMakeP 3 2 0 f_Waitingzz_initzz [] [0, 1, 2] 3 (aCons (eCallP 1 0 f__law_house [] [0] 1 (aCons (eVar 1) aNil) aNil) (aCons (eBin addD (eSl (eVar 2) pNone (pSome (eVar 8))) (eSl (eVar 2) (pSome (eBin addD (eVar 8) (eC (.int 1)))) pNone)) aNil)) aNil) aNil)))
def nl_5b_3 : EvS := (sSet 10 (eIf (eB (eBin eqD (eVar 9) (eTup (aCons (eC (.str "a")) aNil)))) (eTup (aCons (eC (.str "b")) aNil)) (eTup (aCons (eC (.str "a")) aNil))))
def nl_5b_4 : EvS := (sExpr (eMt "list" appendF (eVar 5) (aCons (eMakeP 3 2 0 f_Waitingzz_initzz [] [0, 1, 2] 3 (aCons (eCallP 1 0 f__law_house [] [0] 1 (aCons (eVar 1) aNil) aNil) (aCons (eBin addD (eBin addD (eSl (eVar 2) pNone (pSome (eVar 8))) (eTup (aCons (eTup (aCons (eVar 6) (aCons (eVar 10) aNil))) aNil))) (eSl (eVar 2) (pSome (eBin addD (eVar 8) (eC (.int 1)))) pNone)) aNil)) aNil) aNil)))
def nl_5b : EvS := sSeq nl_5b_0 (sSeq nl_5b_1 (sSeq nl_5b_2 (sSeq nl_5b_3 (nl_5b_4))))
def nl_5 : EvS := (sIf (eB (eBin neD (eVar 2) (eTup aNil))) nl_5b sNil)
def nl_6 : EvS := (sIf (eB (eBin gtD (eCb lenF (aCons (eVar 2) aNil)) (eC (.int 1)))) (sExpr (eMt "list" appendF (eVar 5) (aCons (eMakeP 3 2 0 f_Waitingzz_initzz [] [0, 1, 2] 3 (aCons (eCallP 1 0 f__law_house [] [0] 1 (aCons (eVar 1) aNil) aNil) (aCons (eBin addD (eSl (eVar 2) (pSome (eC (.int 1))) pNone) (eSl (eVar 2) pNone (pSome (eC (.int 1))))) aNil)) aNil) aNil))) sNil)
def nl_7 : EvS := (sRet (eVar 5))
def nl : EvS := sSeq nl_0 (sSeq nl_1 (sSeq nl_2 (sSeq nl_3 (sSeq nl_4 (sSeq nl_5 (sSeq nl_6 (nl_7)))))))
theorem nl_eq : b__law_near_lists = nl := rfl


def rulD (w d : Int) (s e : Str) : D := .tup [.int w, .int d, .str s, .str e]
section
variable {w d : Int} {s e s' : Str} {es : List (Str × List Str)} {T1 : Store} {N n : Nat} {L : List WT} {x3 x4 x6 x7 x8 x9 x10 : Option D}
abbrev nZ (T1 : Store) (L : List WT) : Store := T1 ++ [.lst (L.map wT)]
theorem app_w {x : WT} {ρ : Slots} {mk : EvE} (hN : T1.length = N) (r5 : ρ[5]? = some (some (.ref N))) (hl : L.length ≤ 100) (em : mk ρ (nZ T1 L) = .ok (wT x, nZ T1 L)) : sExpr (eMt "list" appendF (eVar 5) (aCons mk aNil)) ρ (nZ T1 L) = .nx ρ (nZ T1 (L ++ [x])) := by
  have a := appendF_ref (y := wT x) (get_end (c := Cell.lst (L.map wT)) (X := []) hN) (by simp; omega)
  have b : (nZ T1 L).set N (.lst (L.map wT ++ [wT x])) = nZ T1 (L ++ [x]) := by
    rw [show (nZ T1 L).set N _ = T1 ++ [_] from set_end hN]
    simp [nZ]
  have c : appendF (nZ T1 L) (.ref N) [wT x] = some (.non, nZ T1 (L ++ [x])) := a.trans (by rw [← b])
  simp only [sExpr, eMt, eVar, r5, Res.bind, isT_ref (get_end (c := Cell.lst (L.map wT)) (X := []) hN), if_true, aCons, aNil, em, c, ofP, Res.out]
theorem cel_one {ρ : Slots} {T2 : Store} {mk : EvE} {x : D} {i : Nat} (em : mk ρ T2 = .ok (x, T2)) : sSet i (eCel (aCons mk aNil)) ρ T2 = .nx (ρ.set i (some (.ref T2.length))) (T2 ++ [.lst [x]]) := by
  simp only [sSet, eCel, aCons, aNil, em, Res.bind, Res.out, List.length_cons, List.length_nil, Nat.zero_add, Nat.reduceLeDiff, if_true]
theorem st_2 {T2 : Store} (h : Ok w d s' e) (he : EntsOk es) (hN : T2.length = N) : nl_2 [some (.ref n), some (rulD w d s e), some (entsD es), x3, some (.str s'), none, x6, x7, x8, x9, x10] T2 = .nx [some (.ref n), some (rulD w d s e), some (entsD es), x3, some (.str s'), some (.ref N), x6, x7, x8, x9, x10] (nZ T2 [(w, d, s', e, es)]) := by
  have e0 : eMakeP 0 4 0 f_Housezz_initzz [(.str "keep"), (.str "keep")] [0, 1, 2, 3, 4] 5 (aCons (eBin ixD (eVar 1) (eC (.int 0))) (aCons (eBin ixD (eVar 1) (eC (.int 1))) (aCons (eVar 4) (aCons (eBin ixD (eVar 1) (eC (.int 3))) aNil)))) aNil [some (.ref n), some (rulD w d s e), some (entsD es), x3, some (.str s'), none, x6, x7, x8, x9, x10] T2 = .ok (hD w d s' e, T2) :=
    hmake (as := [.int w, .int d, .str s', .str e]) (zs := []) h rfl rfl rfl rfl rfl
  have em := wmake (n := 2) (j := 0) (dds := []) (plan := [0, 1, 2]) (ga := aCons (eMakeP 0 4 0 f_Housezz_initzz [(.str "keep"), (.str "keep")] [0, 1, 2, 3, 4] 5 (aCons (eBin ixD (eVar 1) (eC (.int 0))) (aCons (eBin ixD (eVar 1) (eC (.int 1))) (aCons (eVar 4) (aCons (eBin ixD (eVar 1) (eC (.int 3))) aNil)))) aNil) (aCons (eVar 2) aNil)) (gk := aNil)
    (ρ := [some (.ref n), some (rulD w d s e), some (entsD es), x3, some (.str s'), none, x6, x7, x8, x9, x10]) (S := T2) (T := T2) (T2 := T2) (as := [hD w d s' e, entsD es]) (zs := []) (w := w) (d := d) (s := s') (e := e) he (by simp only [aCons, aNil, e0, eVar, Res.bind, List.getElem?_cons_succ, List.getElem?_cons_zero]) rfl rfl rfl rfl
  have r := cel_one (i := 5) em
  rw [hN] at r
  exact r
theorem st_3 (h : Ok w d s e) (he : EntsOk es) (hN : T1.length = N) (hl : L.length ≤ 100) : nl_3 [some (.ref n), some (rulD w d s e), some (entsD es), x3, x4, some (.ref N), x6, x7, x8, x9, x10] (nZ T1 L) = .nx [some (.ref n), some (rulD w d s e), some (entsD es), x3, x4, some (.ref N), x6, x7, x8, x9, x10] (nZ T1 (L ++ [(w % 3 + 1, d, s, e, es)])) := by
  have h' : Ok (w % 3 + 1) d s e := ⟨by rcases h.w with rfl | rfl | rfl <;> omega, h.d1, h.d2, h.s, h.e⟩
  have m3 : (0 : Int) < 3 := by decide
  refine app_w hN rfl hl (wmake (as := [hD (w % 3 + 1) d s e, entsD es]) (zs := []) he ?_ rfl rfl rfl rfl)
  simp only [rulD, eVar, eC, eBin, eBinR, eB, eTru, eNotT, eOrT, eAndT, eNot, eAnd, eOr, eIf, sSeq, sSet, sIf, sRet, sRetN, sExpr, sNil, sPar, sPar3, sAsg, sAsq, gTu, gCn, gN, gNl, qTu, qCn, qN, qNl, qSub, aCons, aNil, aApp, eTup, eLst, eCel, ofO, ofP, Res.bind, Res.out, Res.bind0, eCb, f1, f2, eCallP, eSl, eSlS, pNone, pSome, sSub, eFld, fnD, fnDC, startD, pick, eChain, eIsi, eProp, noX, eMt, eM0, sFor, iSeq, eDct0, onlyS, onlyB, addD_int, subD_int, ltD_int, gtD_int, leD_int, geD_int, ixD_tup, ixD_lst, ixD_scr, atI_0, atI_1, atI_2, atI_3, atI_4, atI_5, atI_6, atI_7, atI_8, toIntD_int, truD_bl, List.getElem?_cons_zero, List.getElem?_cons_succ, List.getElem?_nil, List.set_cons_zero, List.set_cons_succ, List.length_cons, List.length_nil, List.map_cons, List.map_nil, List.replicate, List.append_nil, List.nil_append, List.cons_append, List.filterMap_cons, List.filterMap_nil, Nat.sub_self, Nat.zero_add, Nat.reduceAdd, Nat.reduceSub, Option.map_some, Option.map_none, if_true, if_false, ite_true, ite_false, reduceIte, Bool.false_eq_true, Nat.reduceLeDiff, Nat.reduceLT, Int.reduceLE, Int.reduceLT, Int.reduceEq, Nat.reduceBEq, Nat.reduceEqDiff, beq_self_eq_true, Bool.and_self, Bool.and_true, Bool.true_and, Bool.not_true, Bool.not_false, Bool.or_true, Bool.true_or, Bool.false_or, Bool.or_false, Bool.and_false, Bool.false_and, decide_true, decide_false, modD_int m3, house_l h']
theorem plain_arg {ρ : Slots} {S : Store} {f : EvE} {D' : D} (h : Ok w d s e) (r1 : ρ[1]? = some (some (rulD w d s e))) (ef : f ρ S = .ok (D', S)) : (aCons (eCallP 1 0 f__law_house [] [0] 1 (aCons (eVar 1) aNil) aNil) (aCons f aNil)) ρ S = .ok ([hD w d s e, D'], S) := by
  have hh := house_t (S := S) h
  have ec : eCallP 1 0 f__law_house [] [0] 1 (aCons (eVar 1) aNil) aNil ρ S = .ok (hD w d s e, S) := (call1_eq r1).trans hh
  simp only [aCons, aNil, ec, ef, Res.bind]
theorem mk_plain {ρ : Slots} {S : Store} {f : EvE} {fs : List (Str × List Str)} (h : Ok w d s e) (r1 : ρ[1]? = some (some (rulD w d s e))) (ef : f ρ S = .ok (entsD fs, S)) (hf : EntsOk fs) : eMakeP 3 2 0 f_Waitingzz_initzz [] [0, 1, 2] 3 (aCons (eCallP 1 0 f__law_house [] [0] 1 (aCons (eVar 1) aNil) aNil) (aCons f aNil)) aNil ρ S = .ok (wT (w, d, s, e, fs), S) :=
  wmake (as := [hD w d s e, entsD fs]) (zs := []) hf (plain_arg h r1 ef) rfl rfl rfl rfl
theorem st_4 (h : Ok w d s e) (he : EntsOk es) (hN : T1.length = N) (hl : L.length ≤ 100) : ∃ M : List WT, nl_4 [some (.ref n), some (rulD w d s e), some (entsD es), x3, x4, some (.ref N), none, none, x8, x9, x10] (nZ T1 L) = .nx [some (.ref n), some (rulD w d s e), some (entsD es), x3, x4, some (.ref N), none, none, x8, x9, x10] (nZ T1 (L ++ M)) ∧ M.length ≤ 1 ∧ ∀ x ∈ M, WOk x ∧ x ≠ (w, d, s, e, es) := by
  have ln : lenF (nZ T1 L) [entsD es] = some (.int (es.length : Nat), nZ T1 L) := by simp only [entsD, lenF_tup, List.length_map]
  by_cases q : es.length < 30
  · have dq : decide ((es.length : Int) < 30) = true := decide_eq_true (by omega)
    obtain ⟨ds, Z', el, rfl, rfl⟩ := lc_inv (g := gTu 2 (gCn (gN 6) (gCn (gN 7) gNl))) (tt := eYes) (te := eVar 6) (ρ := [some (.ref n), some (rulD w d s e), some (entsD es), x3, x4, some (.ref N), none, none, x8, x9, x10]) (fun i acc Z => acc = ((es.take i).map (·.1)).map D.str ∧ Z = nZ T1 L) (xs := es.map entryD) (acc := []) (k := 0) (S := nZ T1 L) (by simp; omega) ⟨rfl, rfl⟩ (by
      rintro i x acc Z hx ⟨rfl, rfl⟩
      rw [List.getElem?_map] at hx
      obtain ⟨y, hy, rfl⟩ := Option.map_eq_some_iff.mp hx
      refine ⟨_, rfl, true, _, rfl, .inl ⟨rfl, .str y.1, nZ T1 L, rfl, ?_, rfl⟩⟩
      rw [Nat.zero_add, List.take_succ, hy]
      simp)
    rw [Nat.zero_add, List.length_map, List.take_length] at el
    have lc : eLc (iSeq (eVar 2)) [6, 7] (gTu 2 (gCn (gN 6) (gCn (gN 7) gNl))) eYes (eVar 6) [some (.ref n), some (rulD w d s e), some (entsD es), x3, x4, some (.ref N), none, none, x8, x9, x10] (nZ T1 L) = .ok (.lst ((es.map (·.1)).map .str), nZ T1 L) := eLc_eq (xs := es.map entryD) (S1 := nZ T1 L) rfl el
    obtain ⟨z, ez, hz, nz⟩ := spare_specL (S := nZ T1 L) (tbl := [(0, f_Housezz_strzz)]) (ys := es.map (·.1)) (fun y hy => by
      obtain ⟨a, ha, rfl⟩ := List.mem_map.mp hy
      exact (he.nm a ha).ok) (by simp; omega)
    have hf := ents_more he q hz nz
    have ea : eBin addD (eVar 2) (eTup (aCons (eTup (aCons (eCallP 1 0 f__law_spare [] [0] 1 (aCons (eLc (iSeq (eVar 2)) [6, 7] (gTu 2 (gCn (gN 6) (gCn (gN 7) gNl))) eYes (eVar 6)) aNil) aNil) (aCons (eTup (aCons (eC (.str "a")) aNil)) aNil))) aNil)) [some (.ref n), some (rulD w d s e), some (entsD es), x3, x4, some (.ref N), none, none, x8, x9, x10] (nZ T1 L) = .ok (entsD (es ++ [(z, [("a" : Str)])]), nZ T1 L) := by
      have ad := add_ents (S := nZ T1 L) (es := es) (fs := [(z, [("a" : Str)])]) (by simp; omega)
      simp only [entsD, entryD, List.map_cons, List.map_nil] at ad ⊢
      simp only [eVar, eC, eBin, eBinR, eB, eTru, eNotT, eOrT, eAndT, eNot, eAnd, eOr, eIf, sSeq, sSet, sIf, sRet, sRetN, sExpr, sNil, sPar, sPar3, sAsg, sAsq, gTu, gCn, gN, gNl, qTu, qCn, qN, qNl, qSub, aCons, aNil, aApp, eTup, eLst, eCel, ofO, ofP, Res.bind, Res.out, Res.bind0, eCb, f1, f2, eCallP, eSl, eSlS, pNone, pSome, sSub, eFld, fnD, fnDC, startD, pick, eChain, eIsi, eProp, noX, eMt, eM0, sFor, iSeq, eDct0, onlyS, onlyB, addD_int, subD_int, ltD_int, gtD_int, leD_int, geD_int, ixD_tup, ixD_lst, ixD_scr, atI_0, atI_1, atI_2, atI_3, atI_4, atI_5, atI_6, atI_7, atI_8, toIntD_int, truD_bl, List.getElem?_cons_zero, List.getElem?_cons_succ, List.getElem?_nil, List.set_cons_zero, List.set_cons_succ, List.length_cons, List.length_nil, List.map_cons, List.map_nil, List.replicate, List.append_nil, List.nil_append, List.cons_append, List.filterMap_cons, List.filterMap_nil, Nat.sub_self, Nat.zero_add, Nat.reduceAdd, Nat.reduceSub, Option.map_some, Option.map_none, if_true, if_false, ite_true, ite_false, reduceIte, Bool.false_eq_true, Nat.reduceLeDiff, Nat.reduceLT, Int.reduceLE, Int.reduceLT, Int.reduceEq, Nat.reduceBEq, Nat.reduceEqDiff, beq_self_eq_true, Bool.and_self, Bool.and_true, Bool.true_and, Bool.not_true, Bool.not_false, Bool.or_true, Bool.true_or, Bool.false_or, Bool.or_false, Bool.and_false, Bool.false_and, decide_true, decide_false, spare_eq, lc, ez]
      rw [show (List.map D.str (List.map (·.1) es)) = List.map D.str (List.map (fun x => x.1) es) from rfl] at *
      simp only [entsD] at lc
      simp only [lc, ez, Res.bind, List.length_cons, List.length_nil, eVar, eC, eBin, eBinR, eB, eTru, eNotT, eOrT, eAndT, eNot, eAnd, eOr, eIf, sSeq, sSet, sIf, sRet, sRetN, sExpr, sNil, sPar, sPar3, sAsg, sAsq, gTu, gCn, gN, gNl, qTu, qCn, qN, qNl, qSub, aCons, aNil, aApp, eTup, eLst, eCel, ofO, ofP, Res.bind, Res.out, Res.bind0, eCb, f1, f2, eCallP, eSl, eSlS, pNone, pSome, sSub, eFld, fnD, fnDC, startD, pick, eChain, eIsi, eProp, noX, eMt, eM0, sFor, iSeq, eDct0, onlyS, onlyB, addD_int, subD_int, ltD_int, gtD_int, leD_int, geD_int, ixD_tup, ixD_lst, ixD_scr, atI_0, atI_1, atI_2, atI_3, atI_4, atI_5, atI_6, atI_7, atI_8, toIntD_int, truD_bl, List.getElem?_cons_zero, List.getElem?_cons_succ, List.getElem?_nil, List.set_cons_zero, List.set_cons_succ, List.length_cons, List.length_nil, List.map_cons, List.map_nil, List.replicate, List.append_nil, List.nil_append, List.cons_append, List.filterMap_cons, List.filterMap_nil, Nat.sub_self, Nat.zero_add, Nat.reduceAdd, Nat.reduceSub, Option.map_some, Option.map_none, if_true, if_false, ite_true, ite_false, reduceIte, Bool.false_eq_true, Nat.reduceLeDiff, Nat.reduceLT, Int.reduceLE, Int.reduceLT, Int.reduceEq, Nat.reduceBEq, Nat.reduceEqDiff, beq_self_eq_true, Bool.and_self, Bool.and_true, Bool.true_and, Bool.not_true, Bool.not_false, Bool.or_true, Bool.true_or, Bool.false_or, Bool.or_false, Bool.and_false, Bool.false_and, decide_true, decide_false, ad, ofO]
    refine ⟨[(w, d, s, e, es ++ [(z, [("a" : Str)])])], ?_, by simp, fun x hx => ?_⟩
    · have ap := app_w (x := (w, d, s, e, es ++ [(z, [("a" : Str)])])) (ρ := [some (.ref n), some (rulD w d s e), some (entsD es), x3, x4, some (.ref N), none, none, x8, x9, x10]) hN rfl hl (mk_plain h rfl ea hf)
      simp only [nl_4, sIf, eB, eBin, eCb, aCons, aNil, eVar, List.getElem?_cons_succ, List.getElem?_cons_zero, Res.bind, Res.bind0, Res.out, ln, ofP, ofO, eC, ltD_int, dq, bltD, if_true]
      exact ap
    · rw [List.mem_singleton.mp hx]
      refine ⟨⟨h, hf⟩, fun z => ?_⟩
      have := congrArg (fun q : WT => q.2.2.2.2.length) z
      simp at this
  · have dq : decide ((es.length : Int) < 30) = false := decide_eq_false (by omega)
    refine ⟨[], ?_, by simp, by simp⟩
    rw [List.append_nil]
    simp only [nl_4, sIf, eB, eBin, eCb, aCons, aNil, eVar, List.getElem?_cons_succ, List.getElem?_cons_zero, Res.bind, Res.bind0, Res.out, ln, ofP, ofO, eC, ltD_int, dq, bltD, Bool.false_eq_true, if_false, sNil]
end
end K05
end
section
namespace K05
open PySem PySem.Spec PyProof.Rows L2 Pd
theorem ents_nil : EntsOk [] := ⟨by simp, by simp, by simp, by simp⟩
section
variable {w d : Int} {s e s' : Str} {es : List (Str × List Str)} {S T1 : Store} {N n : Nat} {L : List WT} {x3 x4 x6 x7 x8 x9 x10 : Option D}
theorem eqD_lot {S : Store} {a b : List Str} (ha : ∀ y ∈ a, PyData.strOk y = true) (hb : ∀ y ∈ b, PyData.strOk y = true) : eqD S (.tup (a.map .str)) (.tup (b.map .str)) = some (.bl (decide (a = b))) := by
  have py_t : ∀ (k : Nat) (ys : List Str), py S k (.tup (ys.map .str)) = some (.tuple (ys.map .str)) := fun k ys => by cases k <;> simp only [py, pyF, pyFs_strs, Option.map_some]
  have sh : ∀ {ys : List Str}, (∀ y ∈ ys, PyData.strOk y = true) → SeqAt.shaped (.tuple (ys.map .str)) = true := fun h => by simp [SeqAt.shaped, PyData.canLay0, canLay_strs h, PyData.depth, depth_strs]
  simp only [eqD, py_t]
  rw [if_pos (by rw [sh ha, sh hb]; rfl)]
  simp only [PyData.eqv, eqvAll_str]
theorem st_5 (hp : PP S n T1) (hN : S.length = N) (h : Ok w d s e) (he : EntsOk es) (hl : L.length ≤ 50) : ∃ (M : List WT) (T2 : Store) (y6 y8 y9 y10 : Option D), nl_5 [some (.ref n), some (rulD w d s e), some (entsD es), x3, x4, some (.ref N), none, none, none, none, none] (nZ T1 L) = .nx [some (.ref n), some (rulD w d s e), some (entsD es), x3, x4, some (.ref N), y6, none, y8, y9, y10] (nZ T2 (L ++ M)) ∧ M.length ≤ 2 ∧ (∀ x ∈ M, WOk x ∧ x ≠ (w, d, s, e, es)) ∧ PP S n T2 := by
  have hT1 : T1.length = N := hp.len.trans hN
  have ne := neD_ents (S := nZ T1 L) he ents_nil
  simp only [show entsD [] = .tup [] from rfl] at ne
  by_cases q : es = []
  · refine ⟨[], T1, none, none, none, none, ?_, by simp, by simp, hp⟩
    rw [decide_eq_true q] at ne
    rw [List.append_nil]
    simp only [nl_5, sIf, eB, eBin, eVar, eTup, aNil, List.getElem?_cons_succ, List.getElem?_cons_zero, List.length_nil, Nat.zero_le, if_true, Res.bind, Res.bind0, Res.out, ofO, ne, bltD, Bool.not_true, Bool.false_eq_true, if_false, sNil]
  · rw [decide_eq_false q] at ne
    have l0 : 0 < es.length := List.length_pos_iff.mpr q
    have h30 := he.thirty
    have ln : ∀ Z : Store, lenF Z [entsD es] = some (.int (es.length : Nat), Z) := fun Z => by simp only [entsD, lenF_tup, List.length_map]
    obtain ⟨k, T2, ek, ka, kb, h2⟩ := pick_app [.lst (L.map wT)] (many := (es.length : Nat)) hp (by omega) (by omega)
    obtain ⟨k, rfl⟩ : ∃ j : Nat, k = j := ⟨k.toNat, by omega⟩
    have hk : k < es.length := by omega
    have hT2 : T2.length = N := h2.len.trans hN
    have s0 : nl_5b_0 [some (.ref n), some (rulD w d s e), some (entsD es), x3, x4, some (.ref N), none, none, none, none, none] (nZ T1 L) = .nx [some (.ref n), some (rulD w d s e), some (entsD es), x3, x4, some (.ref N), none, none, some (.int (k : Nat)), none, none] (nZ T2 L) := by
      simp only [nl_5b_0, eVar, eC, eBin, eBinR, eB, eTru, eNotT, eOrT, eAndT, eNot, eAnd, eOr, eIf, sSeq, sSet, sIf, sRet, sRetN, sExpr, sNil, sPar, sPar3, sAsg, sAsq, gTu, gCn, gN, gNl, qTu, qCn, qN, qNl, qSub, aCons, aNil, aApp, eTup, eLst, eCel, ofO, ofP, Res.bind, Res.out, Res.bind0, eCb, f1, f2, eCallP, eSl, eSlS, pNone, pSome, sSub, eFld, fnD, fnDC, startD, pick, eChain, eIsi, eProp, noX, eMt, eM0, sFor, iSeq, eDct0, onlyS, onlyB, addD_int, subD_int, ltD_int, gtD_int, leD_int, geD_int, ixD_tup, ixD_lst, ixD_scr, atI_0, atI_1, atI_2, atI_3, atI_4, atI_5, atI_6, atI_7, atI_8, toIntD_int, truD_bl, List.getElem?_cons_zero, List.getElem?_cons_succ, List.getElem?_nil, List.set_cons_zero, List.set_cons_succ, List.length_cons, List.length_nil, List.map_cons, List.map_nil, List.replicate, List.append_nil, List.nil_append, List.cons_append, List.filterMap_cons, List.filterMap_nil, Nat.sub_self, Nat.zero_add, Nat.reduceAdd, Nat.reduceSub, Option.map_some, Option.map_none, if_true, if_false, ite_true, ite_false, reduceIte, Bool.false_eq_true, Nat.reduceLeDiff, Nat.reduceLT, Int.reduceLE, Int.reduceLT, Int.reduceEq, Nat.reduceBEq, Nat.reduceEqDiff, beq_self_eq_true, Bool.and_self, Bool.and_true, Bool.true_and, Bool.not_true, Bool.not_false, Bool.or_true, Bool.true_or, Bool.false_or, Bool.or_false, Bool.and_false, Bool.false_and, decide_true, decide_false, ln, pick_eq, ek]
    have at_ : atI (es.map entryD) (k : Int) = some (.tup [.str es[k].1, .tup (es[k].2.map .str)]) := Pd.atI_nat (by simp [hk, entryD])
    have s1 : nl_5b_1 [some (.ref n), some (rulD w d s e), some (entsD es), x3, x4, some (.ref N), none, none, some (.int (k : Nat)), none, none] (nZ T2 L) = .nx [some (.ref n), some (rulD w d s e), some (entsD es), x3, x4, some (.ref N), some (.str es[k].1), none, some (.int (k : Nat)), some (.tup (es[k].2.map .str)), none] (nZ T2 L) := by
      simp only [nl_5b_1, entsD, eVar, eC, eBin, eBinR, eB, eTru, eNotT, eOrT, eAndT, eNot, eAnd, eOr, eIf, sSeq, sSet, sIf, sRet, sRetN, sExpr, sNil, sPar, sPar3, sAsg, sAsq, gTu, gCn, gN, gNl, qTu, qCn, qN, qNl, qSub, aCons, aNil, aApp, eTup, eLst, eCel, ofO, ofP, Res.bind, Res.out, Res.bind0, eCb, f1, f2, eCallP, eSl, eSlS, pNone, pSome, sSub, eFld, fnD, fnDC, startD, pick, eChain, eIsi, eProp, noX, eMt, eM0, sFor, iSeq, eDct0, onlyS, onlyB, addD_int, subD_int, ltD_int, gtD_int, leD_int, geD_int, ixD_tup, ixD_lst, ixD_scr, atI_0, atI_1, atI_2, atI_3, atI_4, atI_5, atI_6, atI_7, atI_8, toIntD_int, truD_bl, List.getElem?_cons_zero, List.getElem?_cons_succ, List.getElem?_nil, List.set_cons_zero, List.set_cons_succ, List.length_cons, List.length_nil, List.map_cons, List.map_nil, List.replicate, List.append_nil, List.nil_append, List.cons_append, List.filterMap_cons, List.filterMap_nil, Nat.sub_self, Nat.zero_add, Nat.reduceAdd, Nat.reduceSub, Option.map_some, Option.map_none, if_true, if_false, ite_true, ite_false, reduceIte, Bool.false_eq_true, Nat.reduceLeDiff, Nat.reduceLT, Int.reduceLE, Int.reduceLT, Int.reduceEq, Nat.reduceBEq, Nat.reduceEqDiff, beq_self_eq_true, Bool.and_self, Bool.and_true, Bool.true_and, Bool.not_true, Bool.not_false, Bool.or_true, Bool.true_or, Bool.false_or, Bool.or_false, Bool.and_false, Bool.false_and, decide_true, decide_false, at_]
    have ct := fun Z => cut_take (S := Z) (es := es) (k := k) (by omega)
    have cd : ∀ Z : Store, slD Z (entsD es) (some ((k : Int) + 1)) none = some (entsD (es.drop (k + 1))) := fun Z => cut_drop (S := Z) (es := es) (k := k + 1) (by omega)
    have a1 : ∀ Z : Store, addD Z (entsD (es.take k)) (entsD (es.drop (k + 1))) = some (entsD (es.take k ++ es.drop (k + 1))) := fun Z => add_ents (by simp; omega)
    have e2 : eBin addD (eSl (eVar 2) pNone (pSome (eVar 8))) (eSl (eVar 2) (pSome (eBin addD (eVar 8) (eC (.int 1)))) pNone) [some (.ref n), some (rulD w d s e), some (entsD es), x3, x4, some (.ref N), some (.str es[k].1), none, some (.int (k : Nat)), some (.tup (es[k].2.map .str)), none] (nZ T2 L) = .ok (entsD (es.take k ++ es.drop (k + 1)), nZ T2 L) := by
      simp only [eVar, eC, eBin, eBinR, eB, eTru, eNotT, eOrT, eAndT, eNot, eAnd, eOr, eIf, sSeq, sSet, sIf, sRet, sRetN, sExpr, sNil, sPar, sPar3, sAsg, sAsq, gTu, gCn, gN, gNl, qTu, qCn, qN, qNl, qSub, aCons, aNil, aApp, eTup, eLst, eCel, ofO, ofP, Res.bind, Res.out, Res.bind0, eCb, f1, f2, eCallP, eSl, eSlS, pNone, pSome, sSub, eFld, fnD, fnDC, startD, pick, eChain, eIsi, eProp, noX, eMt, eM0, sFor, iSeq, eDct0, onlyS, onlyB, addD_int, subD_int, ltD_int, gtD_int, leD_int, geD_int, ixD_tup, ixD_lst, ixD_scr, atI_0, atI_1, atI_2, atI_3, atI_4, atI_5, atI_6, atI_7, atI_8, toIntD_int, truD_bl, List.getElem?_cons_zero, List.getElem?_cons_succ, List.getElem?_nil, List.set_cons_zero, List.set_cons_succ, List.length_cons, List.length_nil, List.map_cons, List.map_nil, List.replicate, List.append_nil, List.nil_append, List.cons_append, List.filterMap_cons, List.filterMap_nil, Nat.sub_self, Nat.zero_add, Nat.reduceAdd, Nat.reduceSub, Option.map_some, Option.map_none, if_true, if_false, ite_true, ite_false, reduceIte, Bool.false_eq_true, Nat.reduceLeDiff, Nat.reduceLT, Int.reduceLE, Int.reduceLT, Int.reduceEq, Nat.reduceBEq, Nat.reduceEqDiff, beq_self_eq_true, Bool.and_self, Bool.and_true, Bool.true_and, Bool.not_true, Bool.not_false, Bool.or_true, Bool.true_or, Bool.false_or, Bool.or_false, Bool.and_false, Bool.false_and, decide_true, decide_false, ct, cd, a1]
    have ap2 := app_w (x := (w, d, s, e, es.take k ++ es.drop (k + 1))) (ρ := [some (.ref n), some (rulD w d s e), some (entsD es), x3, x4, some (.ref N), some (.str es[k].1), none, some (.int (k : Nat)), some (.tup (es[k].2.map .str)), none]) hT2 rfl (show L.length ≤ 100 by omega) (mk_plain h rfl e2 (ents_sub he less_sub))
    obtain ⟨l, hlot, hne, e3⟩ : ∃ l : List Str, LotN l ∧ l ≠ es[k].2 ∧ ∀ Z : Store, nl_5b_3 [some (.ref n), some (rulD w d s e), some (entsD es), x3, x4, some (.ref N), some (.str es[k].1), none, some (.int (k : Nat)), some (.tup (es[k].2.map .str)), none] Z = .nx [some (.ref n), some (rulD w d s e), some (entsD es), x3, x4, some (.ref N), some (.str es[k].1), none, some (.int (k : Nat)), some (.tup (es[k].2.map .str)), some (.tup (l.map .str))] Z := by
      have lk := he.lot es[k] (List.getElem_mem hk)
      have qd := fun Z : Store => eqD_lot (S := Z) (a := es[k].2) (b := [("a" : Str)]) (fun y hy => (lk.nm y hy).ok) (by simp [nameA.ok])
      simp only [List.map_cons, List.map_nil] at qd
      by_cases z : es[k].2 = [("a" : Str)]
      · refine ⟨[("b" : Str)], lotB, by rw [z]; decide +kernel, fun Z => ?_⟩
        have qd := qd Z
        rw [decide_eq_true z] at qd
        simp only [nl_5b_3, eVar, eC, eBin, eBinR, eB, eTru, eNotT, eOrT, eAndT, eNot, eAnd, eOr, eIf, sSeq, sSet, sIf, sRet, sRetN, sExpr, sNil, sPar, sPar3, sAsg, sAsq, gTu, gCn, gN, gNl, qTu, qCn, qN, qNl, qSub, aCons, aNil, aApp, eTup, eLst, eCel, ofO, ofP, Res.bind, Res.out, Res.bind0, eCb, f1, f2, eCallP, eSl, eSlS, pNone, pSome, sSub, eFld, fnD, fnDC, startD, pick, eChain, eIsi, eProp, noX, eMt, eM0, sFor, iSeq, eDct0, onlyS, onlyB, addD_int, subD_int, ltD_int, gtD_int, leD_int, geD_int, ixD_tup, ixD_lst, ixD_scr, atI_0, atI_1, atI_2, atI_3, atI_4, atI_5, atI_6, atI_7, atI_8, toIntD_int, truD_bl, List.getElem?_cons_zero, List.getElem?_cons_succ, List.getElem?_nil, List.set_cons_zero, List.set_cons_succ, List.length_cons, List.length_nil, List.map_cons, List.map_nil, List.replicate, List.append_nil, List.nil_append, List.cons_append, List.filterMap_cons, List.filterMap_nil, Nat.sub_self, Nat.zero_add, Nat.reduceAdd, Nat.reduceSub, Option.map_some, Option.map_none, if_true, if_false, ite_true, ite_false, reduceIte, Bool.false_eq_true, Nat.reduceLeDiff, Nat.reduceLT, Int.reduceLE, Int.reduceLT, Int.reduceEq, Nat.reduceBEq, Nat.reduceEqDiff, beq_self_eq_true, Bool.and_self, Bool.and_true, Bool.true_and, Bool.not_true, Bool.not_false, Bool.or_true, Bool.true_or, Bool.false_or, Bool.or_false, Bool.and_false, Bool.false_and, decide_true, decide_false, qd]
      · refine ⟨[("a" : Str)], lotA, fun q => z q.symm, fun Z => ?_⟩
        have qd := qd Z
        rw [decide_eq_false z] at qd
        simp only [nl_5b_3, eVar, eC, eBin, eBinR, eB, eTru, eNotT, eOrT, eAndT, eNot, eAnd, eOr, eIf, sSeq, sSet, sIf, sRet, sRetN, sExpr, sNil, sPar, sPar3, sAsg, sAsq, gTu, gCn, gN, gNl, qTu, qCn, qN, qNl, qSub, aCons, aNil, aApp, eTup, eLst, eCel, ofO, ofP, Res.bind, Res.out, Res.bind0, eCb, f1, f2, eCallP, eSl, eSlS, pNone, pSome, sSub, eFld, fnD, fnDC, startD, pick, eChain, eIsi, eProp, noX, eMt, eM0, sFor, iSeq, eDct0, onlyS, onlyB, addD_int, subD_int, ltD_int, gtD_int, leD_int, geD_int, ixD_tup, ixD_lst, ixD_scr, atI_0, atI_1, atI_2, atI_3, atI_4, atI_5, atI_6, atI_7, atI_8, toIntD_int, truD_bl, List.getElem?_cons_zero, List.getElem?_cons_succ, List.getElem?_nil, List.set_cons_zero, List.set_cons_succ, List.length_cons, List.length_nil, List.map_cons, List.map_nil, List.replicate, List.append_nil, List.nil_append, List.cons_append, List.filterMap_cons, List.filterMap_nil, Nat.sub_self, Nat.zero_add, Nat.reduceAdd, Nat.reduceSub, Option.map_some, Option.map_none, if_true, if_false, ite_true, ite_false, reduceIte, Bool.false_eq_true, Nat.reduceLeDiff, Nat.reduceLT, Int.reduceLE, Int.reduceLT, Int.reduceEq, Nat.reduceBEq, Nat.reduceEqDiff, beq_self_eq_true, Bool.and_self, Bool.and_true, Bool.true_and, Bool.not_true, Bool.not_false, Bool.or_true, Bool.true_or, Bool.false_or, Bool.or_false, Bool.and_false, Bool.false_and, decide_true, decide_false, qd]
    have a2 : ∀ Z : Store, addD Z (entsD (es.take k)) (entsD [(es[k].1, l)]) = some (entsD (es.take k ++ [(es[k].1, l)])) := fun Z => add_ents (by simp; omega)
    have a3 : ∀ Z : Store, addD Z (entsD (es.take k ++ [(es[k].1, l)])) (entsD (es.drop (k + 1))) = some (entsD (es.take k ++ [(es[k].1, l)] ++ es.drop (k + 1))) := fun Z => add_ents (by simp; omega)
    have tp : eTup (aCons (eTup (aCons (eVar 6) (aCons (eVar 10) aNil))) aNil) [some (.ref n), some (rulD w d s e), some (entsD es), x3, x4, some (.ref N), some (.str es[k].1), none, some (.int (k : Nat)), some (.tup (es[k].2.map .str)), some (.tup (l.map .str))] = fun Z => .ok (entsD [(es[k].1, l)], Z) := by
      funext Z
      rfl
    have e4 : eBin addD (eBin addD (eSl (eVar 2) pNone (pSome (eVar 8))) (eTup (aCons (eTup (aCons (eVar 6) (aCons (eVar 10) aNil))) aNil))) (eSl (eVar 2) (pSome (eBin addD (eVar 8) (eC (.int 1)))) pNone) [some (.ref n), some (rulD w d s e), some (entsD es), x3, x4, some (.ref N), some (.str es[k].1), none, some (.int (k : Nat)), some (.tup (es[k].2.map .str)), some (.tup (l.map .str))] (nZ T2 (L ++ [(w, d, s, e, es.take k ++ es.drop (k + 1))])) = .ok (entsD (es.take k ++ [(es[k].1, l)] ++ es.drop (k + 1)), nZ T2 (L ++ [(w, d, s, e, es.take k ++ es.drop (k + 1))])) := by
      simp only [eBin, tp, eSl, eVar, pNone, pSome, eC, List.getElem?_cons_succ, List.getElem?_cons_zero, Res.bind, ofO, addD_int, ct, cd, a2, a3]
    have ap4 := app_w (x := (w, d, s, e, es.take k ++ [(es[k].1, l)] ++ es.drop (k + 1))) (L := L ++ [(w, d, s, e, es.take k ++ es.drop (k + 1))]) (ρ := [some (.ref n), some (rulD w d s e), some (entsD es), x3, x4, some (.ref N), some (.str es[k].1), none, some (.int (k : Nat)), some (.tup (es[k].2.map .str)), some (.tup (l.map .str))]) hT2 rfl (by simp; omega) (mk_plain h rfl e4 (ents_other he hk hlot))
    refine ⟨[(w, d, s, e, es.take k ++ es.drop (k + 1)), (w, d, s, e, es.take k ++ [(es[k].1, l)] ++ es.drop (k + 1))], T2, some (.str es[k].1), some (.int (k : Nat)), some (.tup (es[k].2.map .str)), some (.tup (l.map .str)), ?_, Nat.le_refl _, fun x hx => ?_, h2⟩
    · have hb : nl_5b [some (.ref n), some (rulD w d s e), some (entsD es), x3, x4, some (.ref N), none, none, none, none, none] (nZ T1 L) = .nx [some (.ref n), some (rulD w d s e), some (entsD es), x3, x4, some (.ref N), some (.str es[k].1), none, some (.int (k : Nat)), some (.tup (es[k].2.map .str)), some (.tup (l.map .str))] (nZ T2 (L ++ [(w, d, s, e, es.take k ++ es.drop (k + 1)), (w, d, s, e, es.take k ++ [(es[k].1, l)] ++ es.drop (k + 1))])) := by
        unfold nl_5b
        rw [seq_nx s0, seq_nx s1, seq_nx (show nl_5b_2 _ _ = _ from ap2), seq_nx (e3 _)]
        rw [show (L ++ [(w, d, s, e, es.take k ++ es.drop (k + 1)), (w, d, s, e, es.take k ++ [(es[k].1, l)] ++ es.drop (k + 1))]) = L ++ [(w, d, s, e, es.take k ++ es.drop (k + 1))] ++ [(w, d, s, e, es.take k ++ [(es[k].1, l)] ++ es.drop (k + 1))] by simp]
        exact ap4
      simp only [nl_5, sIf, eB, eBin, eVar, eTup, aNil, List.getElem?_cons_succ, List.getElem?_cons_zero, List.length_nil, Nat.zero_le, if_true, Res.bind, Res.bind0, Res.out, ofO, ne, bltD, Bool.not_false, hb]
    · simp only [List.mem_cons, List.not_mem_nil, or_false] at hx
      rcases hx with rfl | rfl
      · exact ⟨⟨h, ents_sub he less_sub⟩, fun z => less_ne hk (congrArg (fun q : WT => q.2.2.2.2) z)⟩
      · exact ⟨⟨h, ents_other he hk hlot⟩, fun z => other_ne hk hne (congrArg (fun q : WT => q.2.2.2.2) z)⟩
theorem st_6 (hN : T1.length = N) (h : Ok w d s e) (he : EntsOk es) (hl : L.length ≤ 50) : ∃ M : List WT, nl_6 [some (.ref n), some (rulD w d s e), some (entsD es), x3, x4, some (.ref N), x6, x7, x8, x9, x10] (nZ T1 L) = .nx [some (.ref n), some (rulD w d s e), some (entsD es), x3, x4, some (.ref N), x6, x7, x8, x9, x10] (nZ T1 (L ++ M)) ∧ ∀ x ∈ M, WOk x ∧ x ≠ (w, d, s, e, es) := by
  have h30 := he.thirty
  have ln : lenF (nZ T1 L) [entsD es] = some (.int (es.length : Nat), nZ T1 L) := by simp only [entsD, lenF_tup, List.length_map]
  by_cases q : 1 < es.length
  · have dq : decide ((1 : Int) < (es.length : Int)) = true := decide_eq_true (by omega)
    have c1 : slD (nZ T1 L) (entsD es) (some 1) none = some (entsD (es.drop 1)) := cut_drop (k := 1) (by omega)
    have c2 : slD (nZ T1 L) (entsD es) none (some 1) = some (entsD (es.take 1)) := cut_take (k := 1) (by omega)
    have a1 : addD (nZ T1 L) (entsD (es.drop 1)) (entsD (es.take 1)) = some (entsD (es.drop 1 ++ es.take 1)) := add_ents (by simp; omega)
    have ef : eBin addD (eSl (eVar 2) (pSome (eC (.int 1))) pNone) (eSl (eVar 2) pNone (pSome (eC (.int 1)))) [some (.ref n), some (rulD w d s e), some (entsD es), x3, x4, some (.ref N), x6, x7, x8, x9, x10] (nZ T1 L) = .ok (entsD (es.drop 1 ++ es.take 1), nZ T1 L) := by
      simp only [eBin, eSl, eVar, pNone, pSome, eC, List.getElem?_cons_succ, List.getElem?_cons_zero, Res.bind, ofO, c1, c2, a1]
    refine ⟨[(w, d, s, e, es.drop 1 ++ es.take 1)], ?_, fun x hx => ?_⟩
    · have ap := app_w (x := (w, d, s, e, es.drop 1 ++ es.take 1)) (ρ := [some (.ref n), some (rulD w d s e), some (entsD es), x3, x4, some (.ref N), x6, x7, x8, x9, x10]) hN rfl (show L.length ≤ 100 by omega) (mk_plain h rfl ef (ents_perm he turn_perm))
      simp only [nl_6, sIf, eB, eBin, eCb, aCons, aNil, eVar, List.getElem?_cons_succ, List.getElem?_cons_zero, Res.bind, Res.bind0, Res.out, ln, ofP, ofO, eC, gtD_int, dq, bltD, if_true]
      exact ap
    · rw [List.mem_singleton.mp hx]
      exact ⟨⟨h, ents_perm he turn_perm⟩, fun z => turn_ne he q (congrArg (fun q : WT => q.2.2.2.2) z)⟩
  · have dq : decide ((1 : Int) < (es.length : Int)) = false := decide_eq_false (by omega)
    refine ⟨[], ?_, by simp⟩
    rw [List.append_nil]
    simp only [nl_6, sIf, eB, eBin, eCb, aCons, aNil, eVar, List.getElem?_cons_succ, List.getElem?_cons_zero, Res.bind, Res.bind0, Res.out, ln, ofP, ofO, eC, gtD_int, dq, bltD, Bool.false_eq_true, if_false, sNil]
theorem nrs_wT {k : Nat} : ∀ L : List WT, nrs k (L.map wT) = true
  | [] => rfl
  | x :: r => by simp only [List.map_cons, nrs, wT, wD, nr, fsW, nrf, hD, fsH, entsD, nrs_ents, nrs_wT r, Bool.and_self]
theorem near_spec {T : Store} (hp : PP S n T) (h : Ok w d s e) (he : EntsOk es) : ∃ (L : List WT) (T' : Store), f__law_near_lists [.ref n, rulD w d s e, entsD es] T = .ok (.lst (L.map wT), T') ∧ (∀ x ∈ L, WOk x ∧ x ≠ (w, d, s, e, es)) ∧ PP S n T' := by
  obtain ⟨j, hj, ej, fj⟩ := index_w (S := T) h.s
  obtain ⟨k, T1, ek, ka, kb, h1⟩ := pick_spec (many := 2) hp (by omega) (by omega)
  obtain ⟨s', es', hs', ne⟩ := fj k ka kb
  have m3 : (0 : Int) < 3 := by decide
  have s0 : nl_0 [some (.ref n), some (rulD w d s e), some (entsD es), none, none, none, none, none, none, none, none] T = .nx [some (.ref n), some (rulD w d s e), some (entsD es), some (.lst [.str "keep", .str "back", .str "out"]), none, none, none, none, none, none, none] T := by
    simp only [nl_0, eVar, eC, eBin, eBinR, eB, eTru, eNotT, eOrT, eAndT, eNot, eAnd, eOr, eIf, sSeq, sSet, sIf, sRet, sRetN, sExpr, sNil, sPar, sPar3, sAsg, sAsq, gTu, gCn, gN, gNl, qTu, qCn, qN, qNl, qSub, aCons, aNil, aApp, eTup, eLst, eCel, ofO, ofP, Res.bind, Res.out, Res.bind0, eCb, f1, f2, eCallP, eSl, eSlS, pNone, pSome, sSub, eFld, fnD, fnDC, startD, pick, eChain, eIsi, eProp, noX, eMt, eM0, sFor, iSeq, eDct0, onlyS, onlyB, addD_int, subD_int, ltD_int, gtD_int, leD_int, geD_int, ixD_tup, ixD_lst, ixD_scr, atI_0, atI_1, atI_2, atI_3, atI_4, atI_5, atI_6, atI_7, atI_8, toIntD_int, truD_bl, List.getElem?_cons_zero, List.getElem?_cons_succ, List.getElem?_nil, List.set_cons_zero, List.set_cons_succ, List.length_cons, List.length_nil, List.map_cons, List.map_nil, List.replicate, List.append_nil, List.nil_append, List.cons_append, List.filterMap_cons, List.filterMap_nil, Nat.sub_self, Nat.zero_add, Nat.reduceAdd, Nat.reduceSub, Option.map_some, Option.map_none, if_true, if_false, ite_true, ite_false, reduceIte, Bool.false_eq_true, Nat.reduceLeDiff, Nat.reduceLT, Int.reduceLE, Int.reduceLT, Int.reduceEq, Nat.reduceBEq, Nat.reduceEqDiff, beq_self_eq_true, Bool.and_self, Bool.and_true, Bool.true_and, Bool.not_true, Bool.not_false, Bool.or_true, Bool.true_or, Bool.false_or, Bool.or_false, Bool.and_false, Bool.false_and, decide_true, decide_false]
  have s1 : nl_1 [some (.ref n), some (rulD w d s e), some (entsD es), some (.lst [.str "keep", .str "back", .str "out"]), none, none, none, none, none, none, none] T = .nx [some (.ref n), some (rulD w d s e), some (entsD es), some (.lst [.str "keep", .str "back", .str "out"]), some (.str s'), none, none, none, none, none, none] T1 := by
    simp only [nl_1, rulD, eVar, eC, eBin, eBinR, eB, eTru, eNotT, eOrT, eAndT, eNot, eAnd, eOr, eIf, sSeq, sSet, sIf, sRet, sRetN, sExpr, sNil, sPar, sPar3, sAsg, sAsq, gTu, gCn, gN, gNl, qTu, qCn, qN, qNl, qSub, aCons, aNil, aApp, eTup, eLst, eCel, ofO, ofP, Res.bind, Res.out, Res.bind0, eCb, f1, f2, eCallP, eSl, eSlS, pNone, pSome, sSub, eFld, fnD, fnDC, startD, pick, eChain, eIsi, eProp, noX, eMt, eM0, sFor, iSeq, eDct0, onlyS, onlyB, addD_int, subD_int, ltD_int, gtD_int, leD_int, geD_int, ixD_tup, ixD_lst, ixD_scr, atI_0, atI_1, atI_2, atI_3, atI_4, atI_5, atI_6, atI_7, atI_8, toIntD_int, truD_bl, List.getElem?_cons_zero, List.getElem?_cons_succ, List.getElem?_nil, List.set_cons_zero, List.set_cons_succ, List.length_cons, List.length_nil, List.map_cons, List.map_nil, List.replicate, List.append_nil, List.nil_append, List.cons_append, List.filterMap_cons, List.filterMap_nil, Nat.sub_self, Nat.zero_add, Nat.reduceAdd, Nat.reduceSub, Option.map_some, Option.map_none, if_true, if_false, ite_true, ite_false, reduceIte, Bool.false_eq_true, Nat.reduceLeDiff, Nat.reduceLT, Int.reduceLE, Int.reduceLT, Int.reduceEq, Nat.reduceBEq, Nat.reduceEqDiff, beq_self_eq_true, Bool.and_self, Bool.and_true, Bool.true_and, Bool.not_true, Bool.not_false, Bool.or_true, Bool.true_or, Bool.false_or, Bool.or_false, Bool.and_false, Bool.false_and, decide_true, decide_false, isT_lst, ej, pick_eq, ek, modD_int m3, es']
  have h' : Ok w d s' e := ⟨h.w, h.d1, h.d2, hs', h.e⟩
  have hN : T1.length = S.length := h1.len
  have s2 := st_2 (n := n) (s := s) (x3 := some (.lst [.str "keep", .str "back", .str "out"])) (x6 := none) (x7 := none) (x8 := none) (x9 := none) (x10 := none) h' he hN
  have s3 := st_3 (n := n) (L := [(w, d, s', e, es)]) (x3 := some (.lst [.str "keep", .str "back", .str "out"])) (x4 := some (.str s')) (x6 := none) (x7 := none) (x8 := none) (x9 := none) (x10 := none) h he hN (by simp)
  obtain ⟨M4, s4, l4, g4⟩ := st_4 (n := n) (L := [(w, d, s', e, es)] ++ [(w % 3 + 1, d, s, e, es)]) (x3 := some (.lst [.str "keep", .str "back", .str "out"])) (x4 := some (.str s')) (x8 := none) (x9 := none) (x10 := none) h he hN (by simp)
  obtain ⟨M5, T2, y6, y8, y9, y10, s5, l5, g5, h2⟩ := st_5 (L := [(w, d, s', e, es)] ++ [(w % 3 + 1, d, s, e, es)] ++ M4) (x3 := some (.lst [.str "keep", .str "back", .str "out"])) (x4 := some (.str s')) h1 rfl h he (by simp; omega)
  obtain ⟨M6, s6, g6⟩ := st_6 (n := n) (T1 := T2) (N := S.length) (L := [(w, d, s', e, es)] ++ [(w % 3 + 1, d, s, e, es)] ++ M4 ++ M5) (x3 := some (.lst [.str "keep", .str "back", .str "out"])) (x4 := some (.str s')) (x6 := y6) (x7 := none) (x8 := y8) (x9 := y9) (x10 := y10) h2.len h he (by simp; omega)
  refine ⟨[(w, d, s', e, es)] ++ [(w % 3 + 1, d, s, e, es)] ++ M4 ++ M5 ++ M6, T2, ?_, ?_, h2⟩
  · refine fn_rt (d := .ref S.length) (S' := nZ T2 ([(w, d, s', e, es)] ++ [(w % 3 + 1, d, s, e, es)] ++ M4 ++ M5 ++ M6)) ?_ (leave_list hp.len (hp.lens h2) (hp.old h2 _) (nrs_wT _))
    rw [nl_eq]
    show nl [some (.ref n), some (rulD w d s e), some (entsD es), none, none, none, none, none, none, none, none] T = _
    unfold nl
    rw [seq_nx s0, seq_nx s1, seq_nx s2, seq_nx s3, seq_nx s4, seq_nx s5, seq_nx s6]
    rfl
  · intro x hx
    rcases List.mem_append.mp hx with hx | hx
    · rcases List.mem_append.mp hx with hx | hx
      · rcases List.mem_append.mp hx with hx | hx
        · rcases List.mem_append.mp hx with hx | hx
          · rw [List.mem_singleton.mp hx]
            exact ⟨⟨h', he⟩, fun z => ne (congrArg (fun q : WT => q.2.2.1) z).symm⟩
          · rw [List.mem_singleton.mp hx]
            refine ⟨⟨⟨by rcases h.w with rfl | rfl | rfl <;> omega, h.d1, h.d2, h.s, h.e⟩, he⟩, fun z => ?_⟩
            have := congrArg (fun q : WT => q.1) z
            simp only at this
            rcases h.w with rfl | rfl | rfl <;> omega
        · exact g4 x hx
      · exact g5 x hx
    · exact g6 x hx
end
end K05
end
section
namespace K05
open PySem PySem.Spec PyProof.Rows L2 Pd
def rt_0 : EvS := (sPar 1 2 (aCons (eCallP 2 0 f__law_rules [] [0, 1] 2 (aCons (eVar 0) (aCons (eC (.int 9)) aNil)) aNil) (aCons (eBin ixD (eLst (aCons (eCallP 2 0 f__law_pick [] [0, 1] 2 (aCons (eVar 0) (aCons (eC (.int 31)) aNil)) aNil) (aCons (eCallP 2 0 f__law_pick [] [0, 1] 2 (aCons (eVar 0) (aCons (eC (.int 4)) aNil)) aNil) aNil))) (eCallP 2 0 f__law_pick [] [0, 1] 2 (aCons (eVar 0) (aCons (eC (.int 2)) aNil)) aNil)) aNil)))
def rt_1 : EvS := (sSet 3 (eCallP 2 0 f__law_names [] [0, 1] 2 (aCons (eVar 0) (aCons (eBin addD (eC (.int 1)) (eCallP 2 0 f__law_pick [] [0, 1] 2 (aCons (eVar 0) (aCons (eC (.int 6)) aNil)) aNil)) aNil)) aNil))
def rt_2 : EvS := (sSet 4 (eCb tupleF (aCons (eCallP 3 0 f__law_people [] [0, 1, 2] 3 (aCons (eVar 0) (aCons (eCallP 2 0 f__law_names [] [0, 1] 2 (aCons (eVar 0) (aCons (eVar 2) aNil)) aNil) (aCons (eVar 3) aNil))) aNil) aNil)))
def rt_3 : EvS := (sAsg (eTup (aCons (eMakeP 3 2 0 f_Waitingzz_initzz [] [0, 1, 2] 3 (aCons (eCallP 1 0 f__law_house [] [0] 1 (aCons (eVar 1) aNil) aNil) (aCons (eVar 4) aNil)) aNil) (aCons (eMakeP 3 0 2 f_Waitingzz_initzz [] [0, 2, 1] 3 aNil (aCons (eVar 4) (aCons (eCallP 1 0 f__law_house [] [0] 1 (aCons (eVar 1) aNil) aNil) aNil))) aNil))) (gTu 2 (gCn (gN 5) (gCn (gN 6) gNl))))
def rt_4b_0 : EvS := (sIf (eOrT (eNotT (eTru (eIsi tab_Waiting (eVar 7)))) (eB (eBin neD (dunE [(0, f_Housezz_reprzz), (3, f_Waitingzz_reprzz)] reprF (eCallP 1 0 f__law_shown [] [0] 1 (aCons (eVar 7) aNil) aNil)) (dunE [(0, f_Housezz_reprzz), (3, f_Waitingzz_reprzz)] reprF (eLst (aCons (eVar 4) (aCons (eTup aNil) (aCons (eC (.int 1)) (aCons (eTup aNil) (aCons (eTup aNil) aNil)))))))))) (sRet (eC (.bl false))) sNil)
def rt_4b_1 : EvS := (sIf (eOrT (eNotT (eTru (eIsi tab_House (eProp 3 f_Waiting_house (eVar 7))))) (eB (eBin neD (dunE [(0, f_Housezz_strzz)] (f1 strD) (eProp 3 f_Waiting_house (eVar 7))) (eCallP 1 0 f__law_house_text [] [0] 1 (aCons (eVar 1) aNil) aNil)))) (sRet (eC (.bl false))) sNil)
def rt_4b_2 : EvS := (sIf (eOrT (eB (eBin neD (dunE [(0, f_Housezz_reprzz), (3, f_Waitingzz_reprzz)] reprF (eVar 7)) (eBin addD (eBin addD (eC (.str "Waiting of ")) (dunE [(0, f_Housezz_strzz)] (f1 strD) (eVar 2))) (eC (.str " entries on day 1"))))) (eOrT (eNotT (eB (eBinR (eqO [(0, f_Housezz_eqzz), (3, f_Waitingzz_eqzz)]) (eVar 7) (eVar 5)))) (eB (eBinR (neO [(0, f_Housezz_eqzz), (3, f_Waitingzz_eqzz)]) (eVar 7) (eVar 6))))) (sRet (eC (.bl false))) sNil)
def rt_4b : EvS := sSeq rt_4b_0 (sSeq rt_4b_1 (rt_4b_2))
def rt_4i : EvI := (iSeq (eLst (aCons (eVar 5) (aCons (eVar 6) (aCons (eMethP 3 1 0 f_Waiting_led [] [0, 1] 2 (eVar 5) (aCons (eTup aNil) aNil) aNil) (aCons (eMethP 3 0 1 f_Waiting_led [] [0, 1] 2 (eVar 6) aNil (aCons (eTup aNil) aNil)) aNil))))))
def rt_4 : EvS := (sFor (iSeq (eLst (aCons (eVar 5) (aCons (eVar 6) (aCons (eMethP 3 1 0 f_Waiting_led [] [0, 1] 2 (eVar 5) (aCons (eTup aNil) aNil) aNil) (aCons (eMethP 3 0 1 f_Waiting_led [] [0, 1] 2 (eVar 6) aNil (aCons (eTup aNil) aNil)) aNil)))))) (gN 7) rt_4b)
def rt_5i : EvI := (iSeq (eCallP 3 0 f__law_near_lists [] [0, 1, 2] 3 (aCons (eVar 0) (aCons (eVar 1) (aCons (eVar 4) aNil))) aNil))
def rt_5 : EvS := (sFor (iSeq (eCallP 3 0 f__law_near_lists [] [0, 1, 2] 3 (aCons (eVar 0) (aCons (eVar 1) (aCons (eVar 4) aNil))) aNil)) (gN 8) (sIf (eOrT (eB (eBinR (eqO [(0, f_Housezz_eqzz), (3, f_Waitingzz_eqzz)]) (eVar 5) (eVar 8))) (eOrT (eB (eBinR (eqO [(0, f_Housezz_eqzz), (3, f_Waitingzz_eqzz)]) (eVar 8) (eVar 5))) (eNotT (eB (eBinR (neO [(0, f_Housezz_eqzz), (3, f_Waitingzz_eqzz)]) (eVar 5) (eVar 8)))))) (sRet (eC (.bl false))) sNil))
def rt_6 : EvS := (sSet 9 (eLst (aCons (eC .non) (aCons (eVar 4) (aCons (eTup aNil) (aCons (dunE [(0, f_Housezz_reprzz), (3, f_Waitingzz_reprzz)] reprF (eVar 5)) (aCons (eC (.int 1)) (aCons (eCallP 1 0 f__law_house [] [0] 1 (aCons (eVar 1) aNil) aNil) (aCons (eLst aNil) (aCons eDct0 aNil))))))))))
def rt_7 : EvS := (sRet (eBin eqD (eLc (iSeq (eVar 9)) [10] (gN 10) (eOrT (eB (eBinR (eqO [(0, f_Housezz_eqzz), (3, f_Waitingzz_eqzz)]) (eVar 5) (eVar 10))) (eOrT (eB (eBinR (eqO [(0, f_Housezz_eqzz), (3, f_Waitingzz_eqzz)]) (eVar 10) (eVar 5))) (eNotT (eB (eBinR (neO [(0, f_Housezz_eqzz), (3, f_Waitingzz_eqzz)]) (eVar 5) (eVar 10)))))) (eVar 10)) (eLst aNil)))
def rt : EvS := sSeq rt_0 (sSeq rt_1 (sSeq rt_2 (sSeq rt_3 (sSeq rt_4 (sSeq rt_5 (sSeq rt_6 (rt_7)))))))
theorem rt_eq : b__law_right = rt := rfl


/-! ### the text of all that a list tells -/
theorem wt_strs : ∀ {ls : List Str}, (∀ k ∈ ls, NameS k) → PyData.weightAll (ls.map .str) ≤ 9 * ls.length
  | [], _ => Nat.zero_le _
  | k :: r, h => by
    have := wt_strs fun z m => h z (List.mem_cons_of_mem _ m)
    have l : k.cps.size ≤ 8 := (h k (List.mem_cons_self ..)).len.2
    simp only [List.map_cons, PyData.weightAll, PyData.weight, List.length_cons]
    omega
theorem wt_ents : ∀ {es : List (Str × List Str)}, (∀ e ∈ es, NameS e.1) → (∀ e ∈ es, LotN e.2) → PyData.weightAll (es.map entP) ≤ 60 * es.length
  | [], _, _ => Nat.zero_le _
  | e :: r, h, g => by
    have := wt_ents (fun z m => h z (List.mem_cons_of_mem _ m)) fun z m => g z (List.mem_cons_of_mem _ m)
    have l : e.1.cps.size ≤ 8 := (h e (List.mem_cons_self ..)).len.2
    have a := wt_strs (g e (List.mem_cons_self ..)).nm
    have b := (g e (List.mem_cons_self ..)).four
    simp only [List.map_cons, PyData.weightAll, PyData.weight, entP, List.length_cons]
    omega
theorem sh_strs : ∀ ls : List Str, PyData.intsShortAll 13 (ls.map .str) = true ∧ PyData.showableAll (ls.map .str) = true
  | [] => ⟨rfl, rfl⟩
  | k :: r => by
    obtain ⟨a, b⟩ := sh_strs r
    simp only [List.map_cons, PyData.intsShortAll, PyData.intsShort, PyData.showableAll, PyData.showable, a, b, Bool.and_self, and_self]
theorem sh_ents : ∀ es : List (Str × List Str), PyData.intsShortAll 13 (es.map entP) = true ∧ PyData.showableAll (es.map entP) = true
  | [] => ⟨rfl, rfl⟩
  | e :: r => by
    obtain ⟨a, b⟩ := sh_ents r
    obtain ⟨c, d⟩ := sh_strs e.2
    simp only [List.map_cons, PyData.intsShortAll, PyData.intsShort, PyData.showableAll, PyData.showable, entP, a, b, c, d, Bool.and_self, and_self]
def tellP (es : List (Str × List Str)) : PyData := .list [.tuple (es.map entP), .tuple [], .int 1, .tuple [], .tuple []]
theorem tell_sh {es : List (Str × List Str)} (h : EntsOk es) : Sh (tellP es) := by
  have a := depth_ents es
  have b := wt_ents h.nm h.lot
  have c := h.thirty
  obtain ⟨d, e⟩ := sh_ents es
  have f := canLay_ents h.nm h.lot
  have i1 : (PyData.int 1).shown.length ≤ 13 := by decide +kernel
  refine ⟨?_, ?_, ?_, ?_, ?_⟩
  · simp [tellP, PyData.canLay0, PyData.canLayAll0, f]
  · simp [tellP, PyData.depth, PyData.depthAll]; omega
  · have w1 : (PyData.int 1).weight = 1 := by decide +kernel
    simp only [tellP, PyData.weight, PyData.weightAll] at w1 ⊢
    omega
  · simp [tellP, PyData.intsShort, PyData.intsShortAll, d, i1]
  · simp [tellP, PyData.showable, PyData.showableAll, e]
    decide
theorem tell_repr {S : Store} {es : List (Str × List Str)} (h : EntsOk es) : reprF S [.lst [entsD es, .tup [], .int 1, .tup [], .tup []]] = some (.str (tellP es).shown, S) := by
  refine reprF_sh ?_ (tell_sh h)
  have e := py_ents (S := S) 3 es
  simp only [py, pyF, pyFs, entsD, pyFs_ents, Option.map_some, tellP]
section
variable {w d : Int} {s e : Str} {S T : Store} {es : List (Str × List Str)} {n : Nat} {x3 x7 x8 x9 x10 : Option D}
theorem one_0 (he : EntsOk es) {W1 W2 : Option D} {R M : Option D} : rt_4b_0 [some (.ref n), R, M, x3, some (entsD es), W1, W2, some (wD w d s e es), x8, x9, x10] T = .nx [some (.ref n), R, M, x3, some (entsD es), W1, W2, some (wD w d s e es), x8, x9, x10] T := by
  have r := tell_repr (S := T) he
  have q := neD_shown (S := T) (tell_sh he).1
  have ec : eCallP 1 0 f__law_shown [] [0] 1 (aCons (eVar 7) aNil) aNil [some (.ref n), R, M, x3, some (entsD es), W1, W2, some (wD w d s e es), x8, x9, x10] T = .ok (.lst [entsD es, .tup [], .int 1, .tup [], .tup []], T) := (call1_eq rfl).trans shown_ok
  simp only [rt_4b_0, sIf, eOrT, eNotT, eTru, eIsi, eB, eBin, eVar, List.getElem?_cons_succ, List.getElem?_cons_zero, Res.bind, Res.bind0, Res.out, kdD_wD, tab_Waiting, truD_bl, Bool.not_true, Bool.false_eq_true, if_false, dunE, ec, fldsD_lst, r, ofP, eLst, aCons, aNil, eTup, eC, List.length_cons, List.length_nil, Nat.zero_add, Nat.reduceAdd, Nat.reduceLeDiff, Nat.zero_le, if_true, q, ofO, bltD, sNil]
theorem one_1 (h : Ok w d s e) {W1 W2 : Option D} {M C : Option D} : rt_4b_1 [some (.ref n), some (rulD w d s e), M, x3, C, W1, W2, some (wD w d s e es), x8, x9, x10] T = .nx [some (.ref n), some (rulD w d s e), M, x3, C, W1, W2, some (wD w d s e es), x8, x9, x10] T := by
  have q := neD_same (S := T) (okt h)
  have ht : eCallP 1 0 f__law_house_text [] [0] 1 (aCons (eVar 1) aNil) aNil [some (.ref n), some (rulD w d s e), M, x3, C, W1, W2, some (wD w d s e es), x8, x9, x10] T = .ok (.str (txt w d s e), T) := (call1_eq rfl).trans (text_t h)
  simp only [rt_4b_1, sIf, eOrT, eNotT, eTru, eIsi, eB, eBin, eVar, List.getElem?_cons_succ, List.getElem?_cons_zero, Res.bind, Res.bind0, Res.out, eProp, fldsD_wD, if_true, house_p, noX, kdD_hD, tab_House, truD_bl, Bool.not_true, Bool.false_eq_true, if_false, dunE, fldsD_hD, List.lookup, beq_self_eq_true, str_ok h, onlyS, ht, q, ofO, bltD, sNil]
theorem one_2 (h : Ok w d s e) (he : EntsOk es) : rt_4b_2 [some (.ref n), some (rulD w d s e), some (.int (es.length : Nat)), x3, some (entsD es), some (wD w d s e es), some (wD w d s e es), some (wD w d s e es), x8, x9, x10] T = .nx [some (.ref n), some (rulD w d s e), some (.int (es.length : Nat)), x3, some (entsD es), some (wD w d s e es), some (wD w d s e es), some (wD w d s e es), x8, x9, x10] T := by
  have h30 := he.thirty
  have a1 := len31 (n := es.length) (by omega)
  have a2 := log31 (n := es.length) (by omega)
  have q := neD_same (S := T) (wtxt_ok (n := es.length))
  have r := wrepr_ok (w := w) (d := d) (s := s) (e := e) (S := T) he
  have z := weq_ok (S := T) h h he he
  rw [decide_eq_true ⟨⟨rfl, rfl, rfl, rfl⟩, rfl⟩] at z
  have b1 : addD T (.str "Waiting of ") (.str (istr (es.length : Nat))) = some (.str (("Waiting of " : Str) ++ istr (es.length : Nat))) := addD_str (by rw [ln5]; omega)
  have b2 : addD T (.str (("Waiting of " : Str) ++ istr (es.length : Nat))) (.str " entries on day 1") = some (.str (wtxt es.length)) := addD_str (by rw [slen_app, ln5, ln7]; omega)
  have st := strD_int a2
  simp only [rt_4b_2, sIf, eOrT, eNotT, eTru, eB, eBin, eBinR, eqO, neO, eVar, List.getElem?_cons_succ, List.getElem?_cons_zero, Res.bind, Res.bind0, Res.out, dunE, fldsD_wD, fldsD_int, List.lookup, beq_self_eq_true, Nat.reduceBEq, r, onlyS, onlyB, f1, st, Option.map_some, ofP, ofO, eC, b1, b2, q, z, kdD_wD, Option.isSome_some, bltD, Bool.not_true, Bool.not_false, Bool.false_eq_true, if_false, if_true, Bool.bne_false, Bool.bne_true, sNil]
end
end K05
end
section
namespace K05
open PySem PySem.Spec PyProof.Rows L2 Pd
section
variable {w d : Int} {s e : Str} {S T : Store} {es : List (Str × List Str)} {n : Nat} {x3 x7 x8 x9 x10 : Option D}
theorem loop_4 (h : Ok w d s e) (he : EntsOk es) : ∃ y7, rt_4 [some (.ref n), some (rulD w d s e), some (.int (es.length : Nat)), x3, some (entsD es), some (wD w d s e es), some (wD w d s e es), none, x8, x9, x10] T = .nx [some (.ref n), some (rulD w d s e), some (.int (es.length : Nat)), x3, some (entsD es), some (wD w d s e es), some (wD w d s e es), y7, x8, x9, x10] T := by
  obtain ⟨ρ1, S1, el, y7, q1, q2⟩ := loop_inv (g := gN 7) (body := rt_4b) (fun _ ρ Z => ∃ y7, ρ = [some (.ref n), some (rulD w d s e), some (.int (es.length : Nat)), x3, some (entsD es), some (wD w d s e es), some (wD w d s e es), y7, x8, x9, x10] ∧ Z = T)
    (xs := [wD w d s e es, wD w d s e es, wD w d s e es, wD w d s e es]) (k := 0) (ρ := [some (.ref n), some (rulD w d s e), some (.int (es.length : Nat)), x3, some (entsD es), some (wD w d s e es), some (wD w d s e es), none, x8, x9, x10]) (S := T) ⟨none, rfl, rfl⟩ (by
      rintro i x ρ Z hx ⟨y7, rfl, rfl⟩
      have hx' : x = wD w d s e es := by
        have := List.mem_of_getElem? hx
        simp only [List.mem_cons, List.not_mem_nil, or_false] at this
        rcases this with q | q | q | q <;> exact q
      subst hx'
      refine ⟨_, rfl, _, _, .inl ?_, some (wD w d s e es), rfl, rfl⟩
      show rt_4b [some (.ref n), some (rulD w d s e), some (.int (es.length : Nat)), x3, some (entsD es), some (wD w d s e es), some (wD w d s e es), some (wD w d s e es), x8, x9, x10] Z = _
      unfold rt_4b
      rw [seq_nx (one_0 he), seq_nx (one_1 h)]
      exact one_2 h he)
  rw [q1, q2] at el
  refine ⟨y7, for_nx (xs := [wD w d s e es, wD w d s e es, wD w d s e es, wD w d s e es]) (S1 := T) ?_ el⟩
  have l1 := led_ok (w := w) (d := d) (s := s) (e := e) (es := es) (S := T)
  simp only [iSeq, eLst, aCons, aNil, eVar, List.getElem?_cons_succ, List.getElem?_cons_zero, Res.bind, eMethP, fldsD_wD, if_true, eTup, List.length_nil, Nat.zero_le, List.length_cons, Nat.zero_add, Nat.reduceAdd, beq_self_eq_true, Bool.and_self, pick, List.map_cons, List.map_nil, List.append_nil, List.nil_append, List.cons_append, List.filterMap_cons, List.filterMap_nil, l1, Nat.reduceLeDiff]
theorem loop_5 (hp : PP S n T) (h : Ok w d s e) (he : EntsOk es) {M y6 y7 : Option D} : ∃ (y8 : Option D) (T' : Store), rt_5 [some (.ref n), some (rulD w d s e), M, x3, some (entsD es), some (wD w d s e es), y6, y7, none, x9, x10] T = .nx [some (.ref n), some (rulD w d s e), M, x3, some (entsD es), some (wD w d s e es), y6, y7, y8, x9, x10] T' ∧ PP S n T' := by
  obtain ⟨L, T2, eN, gL, h2⟩ := near_spec hp h he
  have ln : (eVar 5) [some (.ref n), some (rulD w d s e), M, x3, some (entsD es), some (wD w d s e es), y6, y7, none, x9, x10] T2 = .ok (wD w d s e es, T2) := rfl
  obtain ⟨ρ1, S1, el, y8, q1, q2⟩ := loop_inv (g := gN 8) (body := (sIf (eOrT (eB (eBinR (eqO [(0, f_Housezz_eqzz), (3, f_Waitingzz_eqzz)]) (eVar 5) (eVar 8))) (eOrT (eB (eBinR (eqO [(0, f_Housezz_eqzz), (3, f_Waitingzz_eqzz)]) (eVar 8) (eVar 5))) (eNotT (eB (eBinR (neO [(0, f_Housezz_eqzz), (3, f_Waitingzz_eqzz)]) (eVar 5) (eVar 8)))))) (sRet (eC (.bl false))) sNil))
    (fun _ ρ Z => ∃ y8, ρ = [some (.ref n), some (rulD w d s e), M, x3, some (entsD es), some (wD w d s e es), y6, y7, y8, x9, x10] ∧ Z = T2)
    (xs := L.map wT) (k := 0) (ρ := [some (.ref n), some (rulD w d s e), M, x3, some (entsD es), some (wD w d s e es), y6, y7, none, x9, x10]) (S := T2) ⟨none, rfl, rfl⟩ (by
      rintro i x ρ Z hx ⟨y8, rfl, rfl⟩
      rw [List.getElem?_map] at hx
      obtain ⟨⟨w', d', s', e', fs⟩, hy, rfl⟩ := Option.map_eq_some_iff.mp hx
      obtain ⟨⟨h', hf⟩, ne⟩ := gL _ (List.mem_of_getElem? hy)
      simp only at h' hf
      have z1 := weq_ok (S := Z) h h' he hf
      have z2 := weq_ok (S := Z) h' h hf he
      rw [show decide ((w = w' ∧ d = d' ∧ s = s' ∧ e = e') ∧ es = fs) = false from decide_eq_false fun ⟨⟨a, b, c, f⟩, g⟩ => ne (by rw [a, b, c, f, g])] at z1
      rw [show decide ((w' = w ∧ d' = d ∧ s' = s ∧ e' = e) ∧ fs = es) = false from decide_eq_false fun ⟨⟨a, b, c, f⟩, g⟩ => ne (by rw [a, b, c, f, g])] at z2
      refine ⟨_, rfl, _, _, .inl ?_, some (wD w' d' s' e' fs), rfl, rfl⟩
      show (sIf _ _ _) [some (.ref n), some (rulD w d s e), M, x3, some (entsD es), some (wD w d s e es), y6, y7, some (wD w' d' s' e' fs), x9, x10] Z = _
      simp only [sIf, eOrT, eNotT, eB, eBinR, eqO, neO, eVar, List.getElem?_cons_succ, List.getElem?_cons_zero, Res.bind, Res.bind0, Res.out, fldsD_wD, List.lookup, beq_self_eq_true, Nat.reduceBEq, onlyB, z1, z2, kdD_wD, Option.isSome_some, bltD, Bool.not_true, Bool.not_false, Bool.false_eq_true, if_false, if_true, Bool.bne_false, Bool.bne_true, sNil])
  rw [q1, q2] at el
  refine ⟨y8, T2, for_nx (xs := L.map wT) (S1 := T2) ?_ el, h2⟩
  have ec : eCallP 3 0 f__law_near_lists [] [0, 1, 2] 3 (aCons (eVar 0) (aCons (eVar 1) (aCons (eVar 4) aNil))) aNil [some (.ref n), some (rulD w d s e), M, x3, some (entsD es), some (wD w d s e es), y6, y7, none, x9, x10] T = .ok (.lst (L.map wT), T2) := by
    simp only [eCallP, aCons, aNil, eVar, List.getElem?_cons_succ, List.getElem?_cons_zero, Res.bind, List.length_cons, List.length_nil, Nat.zero_add, Nat.reduceAdd, beq_self_eq_true, Bool.and_self, if_true, List.append_nil, List.nil_append, List.cons_append, pick, List.map_cons, List.map_nil, List.filterMap_cons, List.filterMap_nil, and_self, eN]
  simp only [iSeq, ec, Res.bind]
def thingsD (w d : Int) (s e : Str) (es : List (Str × List Str)) (t : Str) : List D := [.non, entsD es, .tup [], .str t, .int 1, hD w d s e, .lst [], .dct []]
theorem last_7 (h : Ok w d s e) (he : EntsOk es) {t : Str} {R M C y6 y7 : Option D} : rt_7 [some (.ref n), R, M, x3, C, some (wD w d s e es), y6, y7, x8, some (.lst (thingsD w d s e es t)), none] T = .rt (.bl true) T := by
  obtain ⟨ds, S', el, q1, q2⟩ := lc_inv (g := gN 10) (tt := (eOrT (eB (eBinR (eqO [(0, f_Housezz_eqzz), (3, f_Waitingzz_eqzz)]) (eVar 5) (eVar 10))) (eOrT (eB (eBinR (eqO [(0, f_Housezz_eqzz), (3, f_Waitingzz_eqzz)]) (eVar 10) (eVar 5))) (eNotT (eB (eBinR (neO [(0, f_Housezz_eqzz), (3, f_Waitingzz_eqzz)]) (eVar 5) (eVar 10))))))) (te := eVar 10)
    (ρ := [some (.ref n), R, M, x3, C, some (wD w d s e es), y6, y7, x8, some (.lst (thingsD w d s e es t)), none]) (fun _ acc Z => acc = [] ∧ Z = T) (xs := thingsD w d s e es t) (acc := []) (k := 0) (S := T) (by simp [thingsD]) ⟨rfl, rfl⟩ (by
      rintro i x acc Z hx ⟨rfl, rfl⟩
      refine ⟨_, rfl, ?_⟩
      show ∃ b S1, (eOrT _ _) [some (.ref n), R, M, x3, C, some (wD w d s e es), y6, y7, x8, some (.lst (thingsD w d s e es t)), some x] Z = _ ∧ _
      have mem := List.mem_of_getElem? hx
      have main : ∀ kd, kdD Z x = some kd → tab_Waiting kd = some false → fldsD Z x = none → bltD Z x = true → (eOrT (eB (eBinR (eqO [(0, f_Housezz_eqzz), (3, f_Waitingzz_eqzz)]) (eVar 5) (eVar 10))) (eOrT (eB (eBinR (eqO [(0, f_Housezz_eqzz), (3, f_Waitingzz_eqzz)]) (eVar 10) (eVar 5))) (eNotT (eB (eBinR (neO [(0, f_Housezz_eqzz), (3, f_Waitingzz_eqzz)]) (eVar 5) (eVar 10)))))) [some (.ref n), R, M, x3, C, some (wD w d s e es), y6, y7, x8, some (.lst (thingsD w d s e es t)), some x] Z = .ok (false, Z) := by
        intro kd h1 h2 h3 h4
        have z := weq_other (w := w) (d := d) (s := s) (e := e) (es := es) h1 h2
        have b0 : ∀ b, bltD Z (.bl b) = true := fun _ => rfl
        simp only [eOrT, eNotT, eB, eBinR, eqO, neO, eVar, List.getElem?_cons_succ, List.getElem?_cons_zero, Res.bind, Res.bind0, fldsD_wD, h3, List.lookup, beq_self_eq_true, Nat.reduceBEq, onlyB, z, h1, h4, Option.isSome_some, Bool.not_true, Bool.not_false, Bool.false_eq_true, if_false, if_true, Bool.bne_false, Bool.bne_true, ofO]
      have mainH : x = hD w d s e → (eOrT (eB (eBinR (eqO [(0, f_Housezz_eqzz), (3, f_Waitingzz_eqzz)]) (eVar 5) (eVar 10))) (eOrT (eB (eBinR (eqO [(0, f_Housezz_eqzz), (3, f_Waitingzz_eqzz)]) (eVar 10) (eVar 5))) (eNotT (eB (eBinR (neO [(0, f_Housezz_eqzz), (3, f_Waitingzz_eqzz)]) (eVar 5) (eVar 10)))))) [some (.ref n), R, M, x3, C, some (wD w d s e es), y6, y7, x8, some (.lst (thingsD w d s e es t)), some x] Z = .ok (false, Z) := by
        rintro rfl
        have z := weq_other (w := w) (d := d) (s := s) (e := e) (es := es) (S := Z) (x := hD w d s e) kdD_hD rfl
        have y := heq_other (w := w) (d := d) (s := s) (e := e) (S := Z) (x := wD w d s e es) kdD_wD rfl
        simp only [eOrT, eNotT, eB, eBinR, eqO, neO, eVar, List.getElem?_cons_succ, List.getElem?_cons_zero, Res.bind, Res.bind0, fldsD_wD, fldsD_hD, List.lookup, beq_self_eq_true, Nat.reduceBEq, onlyB, z, y, kdD_wD, kdD_hD, Option.isSome_some, Bool.not_true, Bool.not_false, Bool.false_eq_true, if_false, if_true, Bool.bne_false, Bool.bne_true, ofO, bltD]
      refine ⟨false, Z, ?_, .inr ⟨rfl, rfl, rfl⟩⟩
      simp only [thingsD, List.mem_cons, List.not_mem_nil, or_false] at mem
      rcases mem with rfl | rfl | rfl | rfl | rfl | rfl | rfl | rfl
      · exact main .non rfl rfl rfl rfl
      · exact main .tup rfl rfl rfl rfl
      · exact main .tup rfl rfl rfl rfl
      · exact main .str rfl rfl rfl rfl
      · exact main .int rfl rfl rfl rfl
      · exact mainH rfl
      · exact main .lst rfl rfl rfl rfl
      · exact main .dct rfl rfl rfl rfl)
  rw [q1, q2] at el
  have lc : eLc (iSeq (eVar 9)) [10] (gN 10) (eOrT (eB (eBinR (eqO [(0, f_Housezz_eqzz), (3, f_Waitingzz_eqzz)]) (eVar 5) (eVar 10))) (eOrT (eB (eBinR (eqO [(0, f_Housezz_eqzz), (3, f_Waitingzz_eqzz)]) (eVar 10) (eVar 5))) (eNotT (eB (eBinR (neO [(0, f_Housezz_eqzz), (3, f_Waitingzz_eqzz)]) (eVar 5) (eVar 10)))))) (eVar 10) [some (.ref n), R, M, x3, C, some (wD w d s e es), y6, y7, x8, some (.lst (thingsD w d s e es t)), none] T = .ok (.lst [], T) := eLc_eq (xs := thingsD w d s e es t) (S1 := T) rfl el
  have q : eqD T (.lst []) (.lst []) = some (.bl true) := rfl
  simp only [rt_7, sRet, eBin, lc, Res.bind, eLst, aNil, List.length_nil, Nat.zero_le, if_true, ofO, q, Res.out]
end
end K05
end
section
namespace K05
open PySem PySem.Spec PyProof.Rows L2 Pd
section
variable {S T : Store} {n : Nat}
theorem right_spec (hp : PP S n T) : ∃ T', f__law_right [.ref n] T = .ok (.bl true, T') ∧ PP S n T' := by
  obtain ⟨w, d, s, e, T1, e1, h, p1⟩ := rules_gen (m := 9) hp (by omega) (by omega)
  obtain ⟨k1, T2, e2, a2, b2, p2⟩ := pick_spec (many := 31) p1 (by omega) (by omega)
  obtain ⟨k2, T3, e3, a3, b3, p3⟩ := pick_spec (many := 4) p2 (by omega) (by omega)
  obtain ⟨k3, T4, e4, a4, b4, p4⟩ := pick_spec (many := 2) p3 (by omega) (by omega)
  obtain ⟨m, em, hm⟩ : ∃ m : Nat, atI [D.int k1, .int k2] k3 = some (.int (m : Int)) ∧ m ≤ 30 := by
    have : k3 = 0 ∨ k3 = 1 := by omega
    rcases this with rfl | rfl
    · exact ⟨k1.toNat, by rw [atI_0, show ((k1.toNat : Nat) : Int) = k1 by omega], by omega⟩
    · exact ⟨k2.toNat, by rw [atI_1, show ((k2.toNat : Nat) : Int) = k2 by omega], by omega⟩
  obtain ⟨k5, T5, e5, a5, b5, p5⟩ := pick_spec (many := 6) p4 (by omega) (by omega)
  obtain ⟨ks, T6, e6, ⟨lk, nk, ndk⟩, p6⟩ := names_spec (tbl := [(0, f_Housezz_strzz)]) (many := 1 + k5) p5 (by omega) (by omega)
  obtain ⟨ns, T7, e7, ⟨ln, nn, ndn⟩, p7⟩ := names_spec (tbl := [(0, f_Housezz_strzz)]) (many := (m : Int)) p6 (by omega) (by omega)
  obtain ⟨es, T8, e8, ⟨ee, el⟩, p8⟩ := people_spec (ns := ns) p7 nk ndk (by omega) (by omega) (by omega)
  have le : es.length = m := by
    have := congrArg List.length ee
    simp at this
    omega
  have he : EntsOk es := ⟨by omega, by rw [ee]; exact ndn, fun z hz => nn _ (by rw [← ee]; exact List.mem_map_of_mem hz), fun z hz => lotN_of (el z hz) nk⟩
  subst le
  have s0 : rt_0 [some (.ref n), none, none, none, none, none, none, none, none, none, none] T = .nx [some (.ref n), some (rulD w d s e), some (.int (es.length : Nat)), none, none, none, none, none, none, none, none] T4 := by
    simp only [rt_0, eVar, eC, eBin, eBinR, eB, eTru, eNotT, eOrT, eAndT, eNot, eAnd, eOr, eIf, sSeq, sSet, sIf, sRet, sRetN, sExpr, sNil, sPar, sPar3, sAsg, sAsq, gTu, gCn, gN, gNl, qTu, qCn, qN, qNl, qSub, aCons, aNil, aApp, eTup, eLst, eCel, ofO, ofP, Res.bind, Res.out, Res.bind0, eCb, f1, f2, eCallP, eSl, eSlS, pNone, pSome, sSub, eFld, fnD, fnDC, startD, pick, eChain, eIsi, eProp, noX, eMt, eM0, sFor, iSeq, eDct0, onlyS, onlyB, addD_int, subD_int, ltD_int, gtD_int, leD_int, geD_int, ixD_tup, ixD_lst, ixD_scr, atI_0, atI_1, atI_2, atI_3, atI_4, atI_5, atI_6, atI_7, atI_8, toIntD_int, truD_bl, List.getElem?_cons_zero, List.getElem?_cons_succ, List.getElem?_nil, List.set_cons_zero, List.set_cons_succ, List.length_cons, List.length_nil, List.map_cons, List.map_nil, List.replicate, List.append_nil, List.nil_append, List.cons_append, List.filterMap_cons, List.filterMap_nil, Nat.sub_self, Nat.zero_add, Nat.reduceAdd, Nat.reduceSub, Option.map_some, Option.map_none, if_true, if_false, ite_true, ite_false, reduceIte, Bool.false_eq_true, Nat.reduceLeDiff, Nat.reduceLT, Int.reduceLE, Int.reduceLT, Int.reduceEq, Nat.reduceBEq, Nat.reduceEqDiff, beq_self_eq_true, Bool.and_self, Bool.and_true, Bool.true_and, Bool.not_true, Bool.not_false, Bool.or_true, Bool.true_or, Bool.false_or, Bool.or_false, Bool.and_false, Bool.false_and, decide_true, decide_false, rules_eq, pick_eq, e1, e2, e3, e4, em, rulD]
  have s1 : rt_1 [some (.ref n), some (rulD w d s e), some (.int (es.length : Nat)), none, none, none, none, none, none, none, none] T4 = .nx [some (.ref n), some (rulD w d s e), some (.int (es.length : Nat)), some (.lst (ks.map .str)), none, none, none, none, none, none, none] T6 := by
    simp only [rt_1, eVar, eC, eBin, eBinR, eB, eTru, eNotT, eOrT, eAndT, eNot, eAnd, eOr, eIf, sSeq, sSet, sIf, sRet, sRetN, sExpr, sNil, sPar, sPar3, sAsg, sAsq, gTu, gCn, gN, gNl, qTu, qCn, qN, qNl, qSub, aCons, aNil, aApp, eTup, eLst, eCel, ofO, ofP, Res.bind, Res.out, Res.bind0, eCb, f1, f2, eCallP, eSl, eSlS, pNone, pSome, sSub, eFld, fnD, fnDC, startD, pick, eChain, eIsi, eProp, noX, eMt, eM0, sFor, iSeq, eDct0, onlyS, onlyB, addD_int, subD_int, ltD_int, gtD_int, leD_int, geD_int, ixD_tup, ixD_lst, ixD_scr, atI_0, atI_1, atI_2, atI_3, atI_4, atI_5, atI_6, atI_7, atI_8, toIntD_int, truD_bl, List.getElem?_cons_zero, List.getElem?_cons_succ, List.getElem?_nil, List.set_cons_zero, List.set_cons_succ, List.length_cons, List.length_nil, List.map_cons, List.map_nil, List.replicate, List.append_nil, List.nil_append, List.cons_append, List.filterMap_cons, List.filterMap_nil, Nat.sub_self, Nat.zero_add, Nat.reduceAdd, Nat.reduceSub, Option.map_some, Option.map_none, if_true, if_false, ite_true, ite_false, reduceIte, Bool.false_eq_true, Nat.reduceLeDiff, Nat.reduceLT, Int.reduceLE, Int.reduceLT, Int.reduceEq, Nat.reduceBEq, Nat.reduceEqDiff, beq_self_eq_true, Bool.and_self, Bool.and_true, Bool.true_and, Bool.not_true, Bool.not_false, Bool.or_true, Bool.true_or, Bool.false_or, Bool.or_false, Bool.and_false, Bool.false_and, decide_true, decide_false, pick_eq, e5, names_eq, e6]
  have s2 : rt_2 [some (.ref n), some (rulD w d s e), some (.int (es.length : Nat)), some (.lst (ks.map .str)), none, none, none, none, none, none, none] T6 = .nx [some (.ref n), some (rulD w d s e), some (.int (es.length : Nat)), some (.lst (ks.map .str)), some (entsD es), none, none, none, none, none, none] T8 := by
    simp only [rt_2, eVar, eC, eBin, eBinR, eB, eTru, eNotT, eOrT, eAndT, eNot, eAnd, eOr, eIf, sSeq, sSet, sIf, sRet, sRetN, sExpr, sNil, sPar, sPar3, sAsg, sAsq, gTu, gCn, gN, gNl, qTu, qCn, qN, qNl, qSub, aCons, aNil, aApp, eTup, eLst, eCel, ofO, ofP, Res.bind, Res.out, Res.bind0, eCb, f1, f2, eCallP, eSl, eSlS, pNone, pSome, sSub, eFld, fnD, fnDC, startD, pick, eChain, eIsi, eProp, noX, eMt, eM0, sFor, iSeq, eDct0, onlyS, onlyB, addD_int, subD_int, ltD_int, gtD_int, leD_int, geD_int, ixD_tup, ixD_lst, ixD_scr, atI_0, atI_1, atI_2, atI_3, atI_4, atI_5, atI_6, atI_7, atI_8, toIntD_int, truD_bl, List.getElem?_cons_zero, List.getElem?_cons_succ, List.getElem?_nil, List.set_cons_zero, List.set_cons_succ, List.length_cons, List.length_nil, List.map_cons, List.map_nil, List.replicate, List.append_nil, List.nil_append, List.cons_append, List.filterMap_cons, List.filterMap_nil, Nat.sub_self, Nat.zero_add, Nat.reduceAdd, Nat.reduceSub, Option.map_some, Option.map_none, if_true, if_false, ite_true, ite_false, reduceIte, Bool.false_eq_true, Nat.reduceLeDiff, Nat.reduceLT, Int.reduceLE, Int.reduceLT, Int.reduceEq, Nat.reduceBEq, Nat.reduceEqDiff, beq_self_eq_true, Bool.and_self, Bool.and_true, Bool.true_and, Bool.not_true, Bool.not_false, Bool.or_true, Bool.true_or, Bool.false_or, Bool.or_false, Bool.and_false, Bool.false_and, decide_true, decide_false, names_eq, e7, people_eq, e8, tupleF_lst, entsD]
  have m1 : eMakeP 3 2 0 f_Waitingzz_initzz [] [0, 1, 2] 3 (aCons (eCallP 1 0 f__law_house [] [0] 1 (aCons (eVar 1) aNil) aNil) (aCons (eVar 4) aNil)) aNil [some (.ref n), some (rulD w d s e), some (.int (es.length : Nat)), some (.lst (ks.map .str)), some (entsD es), none, none, none, none, none, none] T8 = .ok (wD w d s e es, T8) := mk_plain h rfl rfl he
  have hc : eCallP 1 0 f__law_house [] [0] 1 (aCons (eVar 1) aNil) aNil [some (.ref n), some (rulD w d s e), some (.int (es.length : Nat)), some (.lst (ks.map .str)), some (entsD es), none, none, none, none, none, none] T8 = .ok (hD w d s e, T8) := (call1_eq rfl).trans (house_t h)
  have m2 : eMakeP 3 0 2 f_Waitingzz_initzz [] [0, 2, 1] 3 aNil (aCons (eVar 4) (aCons (eCallP 1 0 f__law_house [] [0] 1 (aCons (eVar 1) aNil) aNil) aNil)) [some (.ref n), some (rulD w d s e), some (.int (es.length : Nat)), some (.lst (ks.map .str)), some (entsD es), none, none, none, none, none, none] T8 = .ok (wD w d s e es, T8) :=
    wmake (as := []) (zs := [entsD es, hD w d s e]) he rfl (by simp only [aCons, aNil, hc, eVar, List.getElem?_cons_succ, List.getElem?_cons_zero, Res.bind]) rfl rfl rfl
  have s3 : rt_3 [some (.ref n), some (rulD w d s e), some (.int (es.length : Nat)), some (.lst (ks.map .str)), some (entsD es), none, none, none, none, none, none] T8 = .nx [some (.ref n), some (rulD w d s e), some (.int (es.length : Nat)), some (.lst (ks.map .str)), some (entsD es), some (wD w d s e es), some (wD w d s e es), none, none, none, none] T8 := by
    have l2 : ∀ a b : D, [a, b].length ≤ 16777216 := fun _ _ => by simp
    have ga : (aCons (eMakeP 3 2 0 f_Waitingzz_initzz [] [0, 1, 2] 3 (aCons (eCallP 1 0 f__law_house [] [0] 1 (aCons (eVar 1) aNil) aNil) (aCons (eVar 4) aNil)) aNil) (aCons (eMakeP 3 0 2 f_Waitingzz_initzz [] [0, 2, 1] 3 aNil (aCons (eVar 4) (aCons (eCallP 1 0 f__law_house [] [0] 1 (aCons (eVar 1) aNil) aNil) aNil))) aNil)) [some (.ref n), some (rulD w d s e), some (.int (es.length : Nat)), some (.lst (ks.map .str)), some (entsD es), none, none, none, none, none, none] T8 = .ok ([wD w d s e es, wD w d s e es], T8) := by
      show Res.bind _ _ = _
      rw [m1]
      show Res.bind (Res.bind _ _) _ = _
      rw [m2]
      rfl
    show Res.out (Res.bind _ _) _ = _
    rw [ga]
    rfl
  obtain ⟨y7, s4⟩ := loop_4 (n := n) (T := T8) (x3 := some (.lst (ks.map .str))) (x8 := none) (x9 := none) (x10 := none) h he
  obtain ⟨y8, T9, s5, p9⟩ := loop_5 (x3 := some (.lst (ks.map .str))) (x9 := none) (x10 := none) (M := some (.int (es.length : Nat))) (y6 := some (wD w d s e es)) (y7 := y7) p8 h he
  have s6 : rt_6 [some (.ref n), some (rulD w d s e), some (.int (es.length : Nat)), some (.lst (ks.map .str)), some (entsD es), some (wD w d s e es), some (wD w d s e es), y7, y8, none, none] T9 = .nx [some (.ref n), some (rulD w d s e), some (.int (es.length : Nat)), some (.lst (ks.map .str)), some (entsD es), some (wD w d s e es), some (wD w d s e es), y7, y8, some (.lst (thingsD w d s e es (wtxt es.length))), none] T9 := by
    have r := wrepr_ok (w := w) (d := d) (s := s) (e := e) (S := T9) he
    have hc9 : eCallP 1 0 f__law_house [] [0] 1 (aCons (eVar 1) aNil) aNil [some (.ref n), some (rulD w d s e), some (.int (es.length : Nat)), some (.lst (ks.map .str)), some (entsD es), some (wD w d s e es), some (wD w d s e es), y7, y8, none, none] T9 = .ok (hD w d s e, T9) := (call1_eq rfl).trans (house_t h)
    simp only [rt_6, sSet, eLst, aCons, aNil, eC, eVar, eTup, eDct0, List.getElem?_cons_succ, List.getElem?_cons_zero, Res.bind, Res.out, dunE, fldsD_wD, List.lookup, beq_self_eq_true, Nat.reduceBEq, r, onlyS, hc9, List.length_cons, List.length_nil, Nat.zero_add, Nat.reduceAdd, Nat.reduceLeDiff, Nat.zero_le, if_true, List.set_cons_succ, List.set_cons_zero, thingsD]
  have s7 := last_7 (n := n) (T := T9) (t := wtxt es.length) (x3 := some (.lst (ks.map .str))) (x8 := y8) (R := some (rulD w d s e)) (M := some (.int (es.length : Nat))) (C := some (entsD es)) (y6 := some (wD w d s e es)) (y7 := y7) h he
  refine ⟨T9, ?_, p9⟩
  refine fn_rt (d := .bl true) (S' := T9) ?_ (Pd.leave_same (hp.lens p9))
  rw [rt_eq]
  show rt [some (.ref n), none, none, none, none, none, none, none, none, none, none] T = _
  unfold rt
  rw [seq_nx s0, seq_nx s1, seq_nx s2, seq_nx s3, seq_nx s4, seq_nx s5, seq_nx s6]
  exact s7
theorem leave_top {d : D} (hd : nr 0 d = true) (S1 : Store) : ∃ S', leave [] d S1 = .ok (d, S') := by
  unfold leave
  split
  · exact ⟨_, rfl⟩
  · rw [if_pos (by rfl), show ([] : Store).length = 0 from rfl, fz_flat hd]
    exact ⟨_, rfl⟩
theorem asked : Asked := by
  intro ns hns
  obtain ⟨m, em⟩ : ∃ m : Nat, m ≤ 1000 ∧ ∀ (r1 : Option D) (S : Store), iRange1 (aCons (eCb (f2 max2D) (aCons (eC (.int 2)) (aCons (eCb (f2 min2D) (aCons (eCb lenF (aCons (eVar 0) aNil)) (aCons (eC (.int 4)) aNil))) aNil))) aNil) [some (.scr (ns.map .int)), r1] S = .ok (rangeD 0 m, S) := by
    refine ⟨(if (if (4 : Int) < ns.length then (4 : Int) else ns.length) > 2 then (if (4 : Int) < ns.length then (4 : Int) else ns.length) else 2).toNat, by split <;> split <;> omega, fun r1 S => ?_⟩
    have ok : rOk (if (if (4 : Int) < ns.length then (4 : Int) else ns.length) > 2 then (if (4 : Int) < ns.length then (4 : Int) else ns.length) else 2) = true := by
      refine rOk_small ?_ ?_ <;> split <;> split <;> omega
    simp only [eVar, eC, eBin, eBinR, eB, eTru, eNotT, eOrT, eAndT, eNot, eAnd, eOr, eIf, sSeq, sSet, sIf, sRet, sRetN, sExpr, sNil, sPar, sPar3, sAsg, sAsq, gTu, gCn, gN, gNl, qTu, qCn, qN, qNl, qSub, aCons, aNil, aApp, eTup, eLst, eCel, ofO, ofP, Res.bind, Res.out, Res.bind0, eCb, f1, f2, eCallP, eSl, eSlS, pNone, pSome, sSub, eFld, fnD, fnDC, startD, pick, eChain, eIsi, eProp, noX, eMt, eM0, sFor, iSeq, iRange1, iRange2, eDct0, onlyS, onlyB, addD_int, subD_int, ltD_int, gtD_int, leD_int, geD_int, ixD_tup, ixD_lst, ixD_scr, atI_0, atI_1, atI_2, atI_3, atI_4, atI_5, atI_6, atI_7, atI_8, toIntD_int, truD_bl, List.getElem?_cons_zero, List.getElem?_cons_succ, List.getElem?_nil, List.set_cons_zero, List.set_cons_succ, List.length_cons, List.length_nil, List.map_cons, List.map_nil, List.replicate, List.append_nil, List.nil_append, List.cons_append, List.filterMap_cons, List.filterMap_nil, Nat.sub_self, Nat.zero_add, Nat.reduceAdd, Nat.reduceSub, Option.map_some, Option.map_none, if_true, if_false, ite_true, ite_false, reduceIte, Bool.false_eq_true, Nat.reduceLeDiff, Nat.reduceLT, Int.reduceLE, Int.reduceLT, Int.reduceEq, Nat.reduceBEq, Nat.reduceEqDiff, beq_self_eq_true, Bool.and_self, Bool.and_true, Bool.true_and, Bool.not_true, Bool.not_false, Bool.or_true, Bool.true_or, Bool.false_or, Bool.or_false, Bool.and_false, Bool.false_and, decide_true, decide_false, dunE, fldsD_int, fldsD_str, fldsD_bl, fldsD_non, fldsD_lst, fldsD_tup, fldsD_scr, fldsD_dct, fldsD_ins, kdD_int, kdD_str, kdD_bl, kdD_non, kdD_lst, kdD_tup, kdD_scr, kdD_dct, kdD_ins, lenF_scr, lenF_lst, lenF_tup, listF_lst, listF_tup, listC_lst, listC_tup, tupleF_lst, tupleF_tup, eqD_int, eqD_bl, neD_int, isN_non, isN_int, isN_tup, strD_str, isT_lst, isT_str, seqL_lst, seqA_lst, seqA_tup, slD_lst, slD_tup, List.lookup, List.find?, eJs_nil, eJs_cons, eFmt_eq, sempty_app, eCmP, eMakeP, eMakeL, sFldD, Nat.reduceEqDiff, eqO, neO, bltD, Option.isSome_some, and_self, bne_self_eq_false, Bool.bne_false, Bool.bne_true, Bool.true_bne, Bool.false_bne, max2D, min2D, List.length_map, if_pos ok]
  obtain ⟨hm, em⟩ := em
  obtain ⟨ds, S1, el, q1⟩ := lc_inv (g := gN 1) (tt := eYes) (te := eCallP 1 0 f__law_right [] [0] 1 (aCons (eCallP 1 0 f__law_purse [] [0] 1 (aCons (eCallP 2 0 f__law_number [] [0, 1] 2 (aCons (eVar 0) (aCons (eVar 1) aNil)) aNil) aNil) aNil) aNil) aNil)
    (ρ := [some (.scr (ns.map .int)), none]) (fun i acc _ => acc = List.replicate i (.bl true)) (xs := rangeD 0 m) (acc := []) (k := 0) (S := []) (by rw [rangeD_len]; simp; omega) rfl (by
      rintro i x acc Z hx rfl
      obtain ⟨rfl, hi⟩ := rangeD_get hx
      obtain ⟨y, ey⟩ := number_spec (S := Z) (ns := ns) (k := 0 + (i : Int)) (by omega) (by omega)
      obtain ⟨T, eT, hT⟩ := purse_spec (S := Z) y
      obtain ⟨T1, e1, h1⟩ := right_spec hT
      refine ⟨_, rfl, true, Z, rfl, .inl ⟨rfl, .bl true, T1, ?_, by rw [Nat.zero_add, List.replicate_succ']⟩⟩
      simp only [eVar, eC, eBin, eBinR, eB, eTru, eNotT, eOrT, eAndT, eNot, eAnd, eOr, eIf, sSeq, sSet, sIf, sRet, sRetN, sExpr, sNil, sPar, sPar3, sAsg, sAsq, gTu, gCn, gN, gNl, qTu, qCn, qN, qNl, qSub, aCons, aNil, aApp, eTup, eLst, eCel, ofO, ofP, Res.bind, Res.out, Res.bind0, eCb, f1, f2, eCallP, eSl, eSlS, pNone, pSome, sSub, eFld, fnD, fnDC, startD, pick, eChain, eIsi, eProp, noX, eMt, eM0, sFor, iSeq, eDct0, onlyS, onlyB, addD_int, subD_int, ltD_int, gtD_int, leD_int, geD_int, ixD_tup, ixD_lst, ixD_scr, atI_0, atI_1, atI_2, atI_3, atI_4, atI_5, atI_6, atI_7, atI_8, toIntD_int, truD_bl, List.getElem?_cons_zero, List.getElem?_cons_succ, List.getElem?_nil, List.set_cons_zero, List.set_cons_succ, List.length_cons, List.length_nil, List.map_cons, List.map_nil, List.replicate, List.append_nil, List.nil_append, List.cons_append, List.filterMap_cons, List.filterMap_nil, Nat.sub_self, Nat.zero_add, Nat.reduceAdd, Nat.reduceSub, Option.map_some, Option.map_none, if_true, if_false, ite_true, ite_false, reduceIte, Bool.false_eq_true, Nat.reduceLeDiff, Nat.reduceLT, Int.reduceLE, Int.reduceLT, Int.reduceEq, Nat.reduceBEq, Nat.reduceEqDiff, beq_self_eq_true, Bool.and_self, Bool.and_true, Bool.true_and, Bool.not_true, Bool.not_false, Bool.or_true, Bool.true_or, Bool.false_or, Bool.or_false, Bool.and_false, Bool.false_and, decide_true, decide_false, number_eq, purse_eq, ey, eT, e1])
  rw [q1] at el
  have lc : eLc (iRange1 (aCons (eCb (f2 max2D) (aCons (eC (.int 2)) (aCons (eCb (f2 min2D) (aCons (eCb lenF (aCons (eVar 0) aNil)) (aCons (eC (.int 4)) aNil))) aNil))) aNil)) [1] (gN 1) eYes (eCallP 1 0 f__law_right [] [0] 1 (aCons (eCallP 1 0 f__law_purse [] [0] 1 (aCons (eCallP 2 0 f__law_number [] [0, 1] 2 (aCons (eVar 0) (aCons (eVar 1) aNil)) aNil) aNil) aNil) aNil) aNil) [some (.scr (ns.map .int)), none] [] = .ok (.lst (List.replicate (0 + (rangeD 0 m).length) (.bl true)), S1) :=
    eLc_eq (em _ _) el
  obtain ⟨S', e'⟩ := leave_top (d := .bl true) rfl S1
  refine ⟨S', ?_⟩
  refine fn_rt (d := .bl true) (S' := S1) ?_ e'
  show sRet (eCb allF (aCons _ aNil)) [some (.scr (ns.map .int)), none] [] = _
  simp only [sRet, eCb, aCons, aNil, lc, Res.bind, ofP, allF_rep, Res.out]
end
end K05
end

open PySem PySem.W PyProof.Rows
theorem PySem.Challenge.cw_offerlists_k05_lists_at_their_beginning_holds : PySem.Challenge.rw_offerlists_k05_lists_at_their_beginning.Holds := by
  exact K05.holds_of K05.asked
