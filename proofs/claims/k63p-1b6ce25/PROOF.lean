import PyProof.Rows.All
import Wide.All
import OpenK.AllK
import Wide.FinOn
import HandS.ForMost
import HandS.IsInst
import HandS.FStr
import HandS.Lambda
import HandS.TupAny
import HandS.Star
import HandS.Strs
import HandS.Deep
import KE.GoesMore
import PyProof.EnumMake
import HandS.Property
import HandS.MakeKwOnly
import KE.KCallOwn
import OpenK.KOps
import HandS.Conv
import HandS.Defaults
import PyProof.ListTruth
import HandS.Small
import HandS.OwnEq
import HandS.Codes
import PyProof.CollectIter
import HandS.ClsMeth
import HandS.ExcInitHot
import HandS.ExcCtx
import HandS.ExcInit
import HandS.WordsExc
import HandS.ExcOwn
import HandS.HotCalls
import HandS.ExcIs
import HandS.ExcField
import KE.KExcIs
import HandS.SetBool
import PyProof.Rows.SetFrom
import HandS.Dict
import HandS.Text
import HandS.List
import HandS.CallLocal
import HandS.More
import HandS.TupMul
import HandS.SuiteRaise
import HandS.RaiseFrom
import HandS.Style
import PyProof.StrBlock2
import HandS.Exc
import PyProof.InstStore
import PyProof.InstStoreFacts
import HandS.HeadHook3
import HandS.EndTab
import KE.KNestM
import PySem.Challenge.RW_joinrounds_k63_hazards_judged
set_option Elab.async false
set_option linter.all false
set_option maxRecDepth 100000
set_option maxHeartbeats 0
set_option autoImplicit false
/-! J1: what an expression, a block comes to, by data (PyData) in slots, and a store of lists that may change. -/
namespace J
open PySem PySem.Spec
open PyProof.Rows L2

/-! ### heaps -/
/-- no table of code objects -/
def Nt (o : HO) : Prop := ∀ q, o ≠ .tbl q
/-- no table, nothing told of code objects -/
def Pl (o : HO) : Prop := Nt o ∧ ∀ f, o ≠ .ext f
def noTab : Option HO → Option HO
  | some (.tbl _) => none
  | x => x
theorem noTab_some {x : Option HO} {o : HO} (h : noTab x = some o) : x = some o ∧ Nt o := by
  match x, h with
  | some (.tbl q), h => cases h
  | none, h => cases h
  | some (.lst _), h | some (.tup _), h | some (.dK _), h | some (.dT _), h | some (.set _ _), h | some (.ins _ _ _), h | some (.own _), h | some (.xd _), h | some (.met _ _), h | some (.rng _ _), h | some (.frz _ _), h | some (.ext _), h =>
    refine ⟨h, fun q z => ?_⟩
    rw [z] at h
    cases h
theorem noTab_of {x : Option HO} {o : HO} (h : x = some o) (n : Nt o) : noTab x = some o := by
  subst h
  cases o <;> first | rfl | exact absurd rfl (n _)
/-- the heap without the places of S, without tables -/
def dl (H : Hp) (S : List Addr) : Hp := fun b => if b ∈ S then none else noTab (H b)
def Fr (S : List Addr) (H H' : Hp) : Prop := ∀ b o, H b = some o → b ∉ S → Nt o → H' b = some o
theorem Fr.refl {S : List Addr} {H : Hp} : Fr S H H := fun _ _ h _ _ => h
theorem Fr.trans {S : List Addr} {H H1 H2 : Hp} (a : Fr S H H1) (b : Fr S H1 H2) : Fr S H H2 := fun x o h n m => b x o (a x o h n m) n m
theorem Fr.of_same {S : List Addr} {H H1 : Hp} (a : Same H H1) : Fr S H H1 := fun x o h _ _ => a x o h
theorem Same.new {H : Hp} {p : Addr} {o : HO} (h : H p = none) : Same H (upd H p o) := fun a u e => by
  rw [upd_ne (ne_of_none e h)]
  exact e
/-- nothing stands at p but, may be, a table -/
def Nw (H : Hp) (p : Addr) : Prop := ∀ o, H p = some o → ¬ Nt o
theorem Nw.of {H : Hp} {p : Addr} (h : H p = none) : Nw H p := fun o e => by rw [h] at e; cases e
theorem Nw.back {S : List Addr} {H H1 : Hp} {p : Addr} (f : Fr S H H1) (h : Nw H1 p) (n : p ∉ S) : Nw H p := fun o e nt => h o (f p o e n nt) nt
theorem Nw.ne {H : Hp} {p b : Addr} {o : HO} (e : H b = some o) (nt : Nt o) (h : Nw H p) : b ≠ p := fun z => h o (z ▸ e) nt
theorem dl_some {H : Hp} {S : List Addr} {b : Addr} {o : HO} (h : dl H S b = some o) : b ∉ S ∧ H b = some o := by
  unfold dl at h
  by_cases hb : b ∈ S
  · rw [if_pos hb] at h; cases h
  · rw [if_neg hb] at h; exact ⟨hb, (noTab_some h).1⟩
theorem dl_nt {H : Hp} {S : List Addr} {b : Addr} {o : HO} (h : dl H S b = some o) : Nt o := by
  unfold dl at h
  by_cases hb : b ∈ S
  · rw [if_pos hb] at h; cases h
  · rw [if_neg hb] at h; exact (noTab_some h).2
theorem dl_of {H : Hp} {S : List Addr} {b : Addr} {o : HO} (hb : b ∉ S) (h : H b = some o) (n : Nt o := by intro q z; cases z) : dl H S b = some o := by
  unfold dl
  rw [if_neg hb]
  exact noTab_of h n
theorem dl_same {H : Hp} {S : List Addr} : Same (dl H S) H := fun b o h => (dl_some h).2
theorem Fr.sameDl {S T : List Addr} {H H' : Hp} (f : Fr S H H') (h : ∀ b ∈ S, b ∈ T) : Same (dl H T) (dl H' T) := fun b o e => by
  have nt := dl_nt e
  obtain ⟨n, e⟩ := dl_some e
  exact dl_of n (f b o e (fun z => n (h b z)) nt) nt
theorem dl_sub {H : Hp} {S T : List Addr} (h : ∀ b ∈ T, b ∈ S) : Same (dl H S) (dl H T) := fun b o e => by
  have nt := dl_nt e
  obtain ⟨n, e⟩ := dl_some e
  exact dl_of (fun z => n (h b z)) e nt
/-- the defs of the laws that make lambdas -/
def lamDefs : List Str := ["_law_fits", "_law_right", "_law_asked", "_law_read_fits", "_law_by_hand", "_law_cleared", "_law_all_of", "wrong_at", "law"]
/-- the names in cells by which the defs that make lambdas are known -/
def lamMark (x : Str) (c : Str → Bool) : Bool := if x == "_law_right" then (c "_law_made" || (c "_law_one" || (c "_law_row_here" || (c "_law_line_here" || (c "_law_things" || (c "_law_thing" || (c "_law_told_here" && !c "_law_mine"))))))) else if x == "law" then c "_law_thing" else true
/-- the def x keeps such a name in a cell -/
def hasCell (K : PySem.W.Frag) (x : Str) : Bool := match PySem.W.nsIn K mainGlobals x with
  | some (some (.ref f)) => (match K.lookup f with
    | some ⟨_, _, .func fd, _⟩ => lamMark x fun n => decide (fd.scope.names.lookup n = some NameKind.cell)
    | _ => false)
  | _ => false
def lamTab (K : PySem.W.Frag) (x : Str) : Option (Addr × Addr) := if hasCell K x = true then PySem.W.tabIn K x else none
theorem lamTab_in {K : PySem.W.Frag} {x : Str} {cp : Addr × Addr} (h : lamTab K x = some cp) : PySem.W.tabIn K x = some cp := by
  unfold lamTab at h
  split at h
  · exact h
  · cases h
/-- their tables of code objects -/
def tabsK (K : PySem.W.Frag) : List (Addr × Str) := lamDefs.filterMap fun x => (lamTab K x).map fun cp => (cp.2, x ++ ".<locals>." ++ "<lambda>")
theorem tabs_fr {T : List (Addr × Str)} {H H' : Hp} (t : LamX.Tabs T H) (h1 : ∀ b o, H b = some o → ¬ Pl o → H' b = some o) : LamX.Tabs T H' := fun p hp => by
  obtain ⟨ps, e, t3, h3⟩ := t p hp
  refine ⟨ps, h1 _ _ e (fun z => z.1 ps rfl), t3, fun pos cv hc => ?_⟩
  obtain ⟨c, e1, e2⟩ := h3 pos cv hc
  exact ⟨c, e1, h1 _ _ e2 (fun z => z.2 _ rfl)⟩
/-- what is written is no table, and what stood there was none -/
theorem tabs_upd {T : List (Addr × Str)} {H : Hp} {a : Addr} {o : HO} (t : LamX.Tabs T H) (h : ∀ u, H a = some u → Pl u) : LamX.Tabs T (upd H a o) := tabs_fr t fun b u e n => by
  have nb : b ≠ a := fun z => by
    rw [z] at e
    exact n (h u e)
  rw [upd_ne nb]
  exact e
theorem Same.seqT {K : PySem.W.Frag} {H H' : Hp} {a : Addr} {xs : List V} (e : Same H H') (h : SqT K H a xs) : SqT K H' a xs := by
  rcases h with (h | ⟨o, h⟩) | h
  · exact .inl (.inl (e _ _ h))
  · exact .inl (.inr ⟨o, e _ _ h⟩)
  · exact .inr h
/-- a dict's key as data -/
def keyD : Key → PyData
  | .inl i => .int i
  | .inr s => .str s
/-- tuples of numbers that the module keeps -/
class KC where
  at_ : Addr → Option (List Int)
variable [KC]
/-- a kept tuple -/
def CstK (K : PySem.W.Frag) (a : Addr) (xs : List Int) : Prop := ∃ (o : Obj) (its : Array Value) (n : Nat), K.lookup a = some o ∧ o.cls = .type "tuple" ∧ o.data = .seq its n ∧ its.size ≤ sizeLine ∧ Vals (xs.map V.int) its.toList
def CkK (K : PySem.W.Frag) : Prop := ∀ a xs, KC.at_ a = some xs → CstK K a xs
mutual
/-- a value is this data: lists, tuples, objects that do not change, dicts as they are tracked; an object is coded as a dict whose first key is None -/
inductive Dq (H : Hp) : V → PyData → Prop
  | non : Dq H .non .none
  | bl (b : Bool) : Dq H (.bl b) (.bool b)
  | int (i : Int) : Dq H (.int i) (.int i)
  | str (x : Str) : Dq H (.str x) (.str x)
  | lst {a : Addr} {xs : List V} {ds : List PyData} : H a = some (.lst xs) → DqAll H xs ds → Dq H (.ref a) (.list ds)
  | tup {a : Addr} {xs : List V} {ds : List PyData} : H a = some (.tup xs) → DqAll H xs ds → Dq H (.ref a) (.tuple ds)
  | ins {x C dx : Addr} {ws : List (Str × V)} {ns : List Str} {ds : List PyData} : H x = some (.ins C dx ws) → ws.map (·.1) = ns → DqAll H (ws.map (·.2)) ds → Dq H (.ref x) (.dict ((.none, .int (C : Nat)) :: (ns.map .str).zip ds))
  | dic {a : Addr} {kvs : List (Key × V)} {ks : List Key} {ds : List PyData} : H a = some (.dK kvs) → kvs.map (·.1) = ks → DqAll H (kvs.map (·.2)) ds → Dq H (.ref a) (.dict ((ks.map keyD).zip ds))
  | cst {a : Addr} {xs : List Int} {ds : List PyData} : KC.at_ a = some xs → ds = xs.map .int → Dq H (.ref a) (.tuple ds)
inductive DqAll (H : Hp) : List V → List PyData → Prop
  | nil : DqAll H [] []
  | cons {v : V} {vs : List V} {d : PyData} {ds : List PyData} : Dq H v d → DqAll H vs ds → DqAll H (v :: vs) (d :: ds)
end
theorem dqAll_kept {H : Hp} : ∀ (l : List Int), DqAll H (l.map V.int) (l.map PyData.int)
  | [] => .nil
  | i :: l => .cons (.int i) (dqAll_kept l)
section
variable {K : PySem.W.Frag} {H H' : Hp}
theorem dpAll_kept : ∀ (l : List Int), DpAll K H (l.map V.int) (l.map PyData.int)
  | [] => .nil
  | i :: l => .cons (.int i) (dpAll_kept l)
theorem CstK.seq {a : Addr} {xs : List Int} (h : CstK K a xs) : SqT K H a (xs.map V.int) := .inr h
mutual
theorem Dq.dp (ck : CkK K) (e : Same H H') : ∀ (d : PyData) (v : V), Dq H v d → d.canLay0 = true → Dp K H' v d
  | .none, _, h, _ => by cases h; exact .non
  | .bool b, _, h, _ => by cases h; exact .bl b
  | .int i, _, h, _ => by cases h; exact .int i
  | .str x, _, h, _ => by cases h; exact .str x
  | .list ds, _, h, c => by
    simp only [PyData.canLay0] at c
    cases h with
    | lst hs ha => exact .lst (SqL.of (e _ _ hs)) (DqAll.dp ck e ds _ ha c)
  | .tuple ds, _, h, c => by
    simp only [PyData.canLay0] at c
    cases h with
    | tup hs ha => exact .tup (SqT.of (e _ _ hs)) (DqAll.dp ck e ds _ ha c)
    | cst hk he => subst he; exact .tup (ck _ _ hk).seq (dpAll_kept _)
  | .dict _, _, _, c => by simp [PyData.canLay0] at c
theorem DqAll.dp (ck : CkK K) (e : Same H H') : ∀ (ds : List PyData) (vs : List V), DqAll H vs ds → PyData.canLayAll0 ds = true → DpAll K H' vs ds
  | [], _, h, _ => by cases h; exact .nil
  | d :: ds, _, h, c => by
    simp only [PyData.canLayAll0, Bool.and_eq_true] at c
    cases h with
    | cons h1 h2 => exact .cons (Dq.dp ck e d _ h1 c.1) (DqAll.dp ck e ds _ h2 c.2)
end
end
section
variable {K : PySem.W.Frag} {H H' : Hp}
theorem dq_mono (e : Same H H') (d : PyData) (v : V) (h : Dq H v d) : Dq H' v d :=
  Dq.rec (motive_1 := fun v d _ => Dq H' v d) (motive_2 := fun vs ds _ => DqAll H' vs ds) .non (fun b => .bl b) (fun i => .int i) (fun x => .str x)
    (fun hs _ ih => .lst (e _ _ hs) ih) (fun hs _ ih => .tup (e _ _ hs) ih) (fun hx hn _ ih => .ins (e _ _ hx) hn ih) (fun hx hn _ ih => .dic (e _ _ hx) hn ih) (fun hk he => .cst hk he) .nil (fun _ _ i1 i2 => .cons i1 i2) h
theorem dqAll_mono (e : Same H H') : ∀ (ds : List PyData) (vs : List V), DqAll H vs ds → DqAll H' vs ds
  | [], _, h => by cases h; exact .nil
  | d :: ds, _, h => by
    cases h with
    | cons h1 h2 => exact .cons (dq_mono e d _ h1) (dqAll_mono e ds _ h2)
theorem dqAll_get : ∀ {vs : List V} {ds : List PyData} {i : Nat} {d : PyData}, DqAll H vs ds → ds[i]? = some d → ∃ v, vs[i]? = some v ∧ Dq H v d
  | [], _, i, d, h, e => by cases h; simp at e
  | v :: vs, _, 0, d, h, e => by
    cases h with
    | cons h1 h2 => simp at e; subst e; exact ⟨v, by simp, h1⟩
  | v :: vs, _, i + 1, d, h, e => by
    cases h with
    | cons h1 h2 =>
      obtain ⟨u, hu, hd⟩ := dqAll_get (i := i) h2 (by simpa using e)
      exact ⟨u, by simpa using hu, hd⟩
theorem dqAll_getV : ∀ {vs : List V} {ds : List PyData} {i : Nat} {v : V}, DqAll H vs ds → vs[i]? = some v → ∃ d, ds[i]? = some d ∧ Dq H v d
  | [], _, i, v, h, e => by simp at e
  | w :: vs, _, 0, v, h, e => by
    cases h with
    | cons h1 h2 => simp at e; subst e; exact ⟨_, by simp, h1⟩
  | w :: vs, _, i + 1, v, h, e => by
    cases h with
    | cons h1 h2 =>
      obtain ⟨u, hu, hd⟩ := dqAll_getV (i := i) h2 (by simpa using e)
      exact ⟨u, by simpa using hu, hd⟩
theorem dqAll_len : ∀ {vs : List V} {ds : List PyData}, DqAll H vs ds → vs.length = ds.length
  | [], _, h => by cases h; rfl
  | v :: vs, _, h => by
    cases h with
    | cons h1 h2 => simp [dqAll_len h2]
theorem dqAll_append : ∀ {vs ws : List V} {ds es : List PyData}, DqAll H vs ds → DqAll H ws es → DqAll H (vs ++ ws) (ds ++ es)
  | [], ws, _, es, h, g => by cases h; exact g
  | v :: vs, ws, _, es, h, g => by
    cases h with
    | cons h1 h2 => exact .cons h1 (dqAll_append h2 g)
theorem dqAll_take : ∀ (n : Nat) {vs : List V} {ds : List PyData}, DqAll H vs ds → DqAll H (vs.take n) (ds.take n)
  | 0, _, _, h => by simp; exact .nil
  | n + 1, [], _, h => by cases h; exact .nil
  | n + 1, v :: vs, _, h => by
    cases h with
    | cons h1 h2 => exact .cons h1 (dqAll_take n h2)
theorem dqAll_drop : ∀ (n : Nat) {vs : List V} {ds : List PyData}, DqAll H vs ds → DqAll H (vs.drop n) (ds.drop n)
  | 0, _, _, h => by simpa using h
  | n + 1, [], _, h => by cases h; exact .nil
  | n + 1, v :: vs, _, h => by
    cases h with
    | cons h1 h2 => simpa using dqAll_drop n h2
theorem dqAll_strs : ∀ (ys : List Str), DqAll H (ys.map V.str) (ys.map PyData.str)
  | [] => .nil
  | y :: ys => .cons (.str y) (dqAll_strs ys)
theorem dqAll_strs' : ∀ {ys : List Str} {vs : List V}, DqAll H vs (ys.map PyData.str) → vs = ys.map V.str
  | [], _, h => by cases h; rfl
  | y :: ys, _, h => by
    cases h with
    | cons h1 h2 => cases h1; rw [dqAll_strs' h2]; rfl
theorem dqAll_ints' : ∀ {ys : List Int} {vs : List V}, DqAll H vs (ys.map PyData.int) → vs = ys.map V.int
  | [], _, h => by cases h; rfl
  | y :: ys, _, h => by
    cases h with
    | cons h1 h2 => cases h1; rw [dqAll_ints' h2]; rfl
end

/-! ### what stands in a slot; the store -/
inductive Ent where
  | dat (d : PyData)
  | ptr (k : Nat)
  | obj (C : Addr) (fs : List (Str × PyData))
  | scr (ns : List Int)
  | raw (u : V)
  | exc (a d : Addr) (fs : List (Str × PyData))
abbrev REnv := List (Option Ent)
abbrev Sto := List (List PyData)
/-- the places of the lists that may change; places that are kept out -/
structure Wd where
  α : List Addr
  ξ : List Addr
abbrev Wd.all (w : Wd) : List Addr := w.α ++ w.ξ

def Val (K : PySem.W.Frag) (H : Hp) (w : Wd) (v : V) : Ent → Prop
  | .dat d => Dq (dl H w.all) v d
  | .ptr k => ∃ a, w.α[k]? = some a ∧ v = .ref a
  | .obj C fs => ∃ x dx ws, v = .ref x ∧ dl H w.all x = some (.ins C dx ws) ∧ ws.map (·.1) = fs.map (·.1) ∧ DqAll (dl H w.all) (ws.map (·.2)) (fs.map (·.2))
  | .scr ns => ∃ a, v = .ref a ∧ SqL K (dl H w.all) a (ns.map V.int)
  | .raw u => v = u
  | .exc a d fs => v = .ref a ∧ ∃ ws, dl H w.all d = some (.xd ws) ∧ ws.map (·.1) = fs.map (·.1) ∧ DqAll (dl H w.all) (ws.map (·.2)) (fs.map (·.2))

/-- an object as data -/
def obD (C : Addr) (fs : List (Str × PyData)) : PyData := .dict ((.none, .int (C : Nat)) :: ((fs.map (·.1)).map .str).zip (fs.map (·.2)))
theorem val_obD {K : PySem.W.Frag} {H : Hp} {w : Wd} {v : V} {C : Addr} {fs : List (Str × PyData)} (h : Val K H w v (.obj C fs)) : Val K H w v (.dat (obD C fs)) := by
  obtain ⟨x, dx, ws, rfl, hx, hn, hd⟩ := h
  exact Dq.ins hx hn hd
theorem zip_inj : ∀ {ns ms : List Str} {ds es : List PyData}, ns.length = ds.length → ms.length = es.length → (ns.map PyData.str).zip ds = (ms.map PyData.str).zip es → ns = ms ∧ ds = es
  | [], [], [], [], _, _, _ => ⟨rfl, rfl⟩
  | [], m :: ms, [], e :: es, _, _, h => by simp at h
  | n :: ns, [], d :: ds, [], _, _, h => by simp at h
  | n :: ns, m :: ms, d :: ds, e :: es, h1, h2, h => by
    simp only [List.map_cons, List.zip_cons_cons, List.cons.injEq, Prod.mk.injEq, PyData.str.injEq] at h
    obtain ⟨⟨rfl, rfl⟩, h⟩ := h
    obtain ⟨rfl, rfl⟩ := zip_inj (by simpa using h1) (by simpa using h2) h
    exact ⟨rfl, rfl⟩
  | [], _, _ :: _, _, h1, _, _ => by simp at h1
  | _ :: _, _, [], _, h1, _, _ => by simp at h1
  | _, [], _, _ :: _, _, h2, _ => by simp at h2
  | _, _ :: _, _, [], _, h2, _ => by simp at h2
theorem val_obj {K : PySem.W.Frag} {H : Hp} {w : Wd} {v : V} {C : Addr} {fs : List (Str × PyData)} (h : Val K H w v (.dat (obD C fs))) : Val K H w v (.obj C fs) := by
  have h' : Dq (dl H w.all) v (obD C fs) := h
  unfold obD at h'
  generalize e : PyData.dict ((PyData.none, PyData.int (C : Nat)) :: ((fs.map (·.1)).map PyData.str).zip (fs.map (·.2))) = d at h'
  cases h' with
  | @ins x C' dx ws ns ds hx hn hd =>
    injection e with e
    injection e with e1 e2
    injection e1 with _ e1
    injection e1 with e1
    have hl : ns.length = ds.length := by rw [← hn, List.length_map, ← dqAll_len hd, List.length_map]
    obtain ⟨q1, q2⟩ := zip_inj (by simp) hl e2
    have : C = C' := by exact Int.ofNat.inj e1
    subst this
    subst q2
    exact ⟨x, dx, ws, rfl, hx, by rw [hn, q1], hd⟩
  | @dic a kvs ks ds hx hn hd =>
    exfalso
    injection e with e
    cases ks with
    | nil => simp at e
    | cons k ks =>
      cases ds with
      | nil => simp at e
      | cons d ds =>
        simp only [List.map_cons, List.zip_cons_cons, List.cons.injEq, Prod.mk.injEq] at e
        obtain ⟨⟨e, _⟩, _⟩ := e
        cases k <;> cases e
  | _ => cases e
structure Mem (K : PySem.W.Frag) (H : Hp) (w : Wd) (μ : Sto) : Prop where
  cst : CkK K
  nd : w.α.Nodup
  len : w.α.length = μ.length
  cell : ∀ (k : Nat) (a : Addr) (xs : List PyData), w.α[k]? = some a → μ[k]? = some xs → ∃ vs, H a = some (.lst vs) ∧ DqAll (dl H w.all) vs xs
  out : ∀ b ∈ w.ξ, b ∉ w.α
  ext : ∀ b ∈ w.ξ, ∃ o, H b = some o ∧ Pl o
  tab : LamX.Tabs (tabsK K) H

structure Sl (K : PySem.W.Frag) (H : Hp) (w : Wd) (σ : L2.St) (ρ : REnv) : Prop where
  len : σ.length = ρ.length
  at_ : ∀ (i : Nat) (r : Ent), ρ[i]? = some (some r) → ∃ v, σ[i]? = some (some v) ∧ Val K H w v r

section
variable {K : PySem.W.Frag} {H H' : Hp} {w : Wd} {μ : Sto} {σ : L2.St} {ρ : REnv} {v : V} {r : Ent}
theorem Fr.all (f : Fr w.α H H') : Same (dl H w.all) (dl H' w.all) := f.sameDl fun b h => List.mem_append_left _ h
theorem Val.same (h : Val K H w v r) (f : Same (dl H w.all) (dl H' w.all)) : Val K H' w v r := by
  cases r with
  | dat d => exact dq_mono f d v h
  | ptr k => exact h
  | obj C fs =>
    obtain ⟨x, dx, ws, e, hx, hn, hd⟩ := h
    exact ⟨x, dx, ws, e, f _ _ hx, hn, dqAll_mono f _ _ hd⟩
  | scr ns =>
    obtain ⟨a, e, hs⟩ := h
    exact ⟨a, e, Same.seq f hs⟩
  | raw u => exact h
  | exc a d fs =>
    obtain ⟨e, ws, hx, hn, hd⟩ := h
    exact ⟨e, ws, f _ _ hx, hn, dqAll_mono f _ _ hd⟩
theorem Val.fr (h : Val K H w v r) (f : Fr w.α H H') : Val K H' w v r := h.same f.all
theorem Sl.same (h : Sl K H w σ ρ) (f : Same (dl H w.all) (dl H' w.all)) : Sl K H' w σ ρ := ⟨h.len, fun i r e => let ⟨v, a, b⟩ := h.at_ i r e; ⟨v, a, b.same f⟩⟩
theorem Sl.fr (h : Sl K H w σ ρ) (f : Fr w.α H H') : Sl K H' w σ ρ := h.same f.all
theorem Sl.set {i : Nat} (h : Sl K H w σ ρ) (hv : Val K H w v r) : Sl K H w (σ.set i (some v)) (ρ.set i (some r)) := by
  refine ⟨by simp [h.len], fun j q e => ?_⟩
  by_cases hj : i = j
  · subst hj
    rw [List.getElem?_set] at e
    rw [List.getElem?_set]
    by_cases hi : i < ρ.length
    · simp [hi] at e
      have hi' : i < σ.length := by rw [h.len]; exact hi
      subst e
      exact ⟨v, by simp [hi'], hv⟩
    · simp [hi] at e
  · rw [List.getElem?_set_ne hj] at e
    rw [List.getElem?_set_ne hj]
    exact h.at_ j q e
/-- a tuple, the code's own or the module's -/
theorem Dq.tupE {K : PySem.W.Frag} {H : Hp} {v : V} {ds : List PyData} (ck : CkK K) (h : Dq H v (.tuple ds)) : ∃ a vs, v = .ref a ∧ (∀ H2, Same H H2 → SqT K H2 a vs) ∧ DqAll H vs ds := by
  cases h with
  | tup ha hd => exact ⟨_, _, rfl, fun H2 e => SqT.of (e _ _ ha), hd⟩
  | cst hk he => subst he; exact ⟨_, _, rfl, fun H2 _ => (ck _ _ hk).seq, dqAll_kept _⟩
theorem Mem.there (m : Mem K H w μ) {b : Addr} (hb : b ∈ w.α) : ∃ vs, H b = some (.lst vs) := by
  obtain ⟨k, hk, e⟩ := List.mem_iff_getElem.mp hb
  have hk' : k < μ.length := by rw [← m.len]; exact hk
  obtain ⟨vs, h, _⟩ := m.cell k b μ[k] (by simp [hk, e]) (by simp [hk'])
  exact ⟨vs, h⟩
theorem Mem.fresh (m : Mem K H w μ) {p : Addr} (hp : H p = none) : p ∉ w.α := fun h => by
  obtain ⟨vs, e⟩ := m.there h
  rw [hp] at e; cases e
theorem Mem.same (m : Mem K H w μ) (f : Same H H') : Mem K H' w μ := by
  refine ⟨m.cst, m.nd, m.len, fun k a xs h1 h2 => ?_, m.out, fun b hb => (m.ext b hb).elim fun o e => ⟨o, f _ _ e.1, e.2⟩, m.tab.ext f⟩
  obtain ⟨vs, h, d⟩ := m.cell k a xs h1 h2
  exact ⟨vs, f _ _ h, dqAll_mono (Fr.all (w := w) (Fr.of_same f)) _ _ d⟩
theorem Mem.freshA (m : Mem K H w μ) {p : Addr} (hp : H p = none) : p ∉ w.all := fun h => by
  rcases List.mem_append.mp h with h | h
  · exact m.fresh hp h
  · obtain ⟨o, e, _⟩ := m.ext p h
    rw [hp] at e; cases e
theorem Mem.freshN (m : Mem K H w μ) {p : Addr} (hp : Nw H p) : p ∉ w.all := fun h => by
  rcases List.mem_append.mp h with h | h
  · obtain ⟨vs, e⟩ := m.there h
    exact hp _ e (fun q z => by cases z)
  · obtain ⟨o, e, po⟩ := m.ext p h
    exact hp _ e po.1
theorem Mem.ex1 (m : Mem K H w μ) {b : Addr} (h : b ∈ w.ξ) : ∃ o, H b = some o := (m.ext b h).elim fun o e => ⟨o, e.1⟩
theorem Mem.new (m : Mem K H w μ) {p : Addr} {o : HO} (hp : H p = none) : Mem K (upd H p o) w μ := m.same (Same.new hp)
end

/-! ### a list that is being made is kept out -/
abbrev wk' (w : Wd) (D : Addr) : Wd := ⟨w.α, D :: w.ξ⟩
theorem all_wk' {w : Wd} {D b : Addr} : b ∈ (wk' w D).all ↔ b = D ∨ b ∈ w.all := by
  simp only [Wd.all, List.mem_append, List.mem_cons]
  constructor
  · rintro (h | h | h)
    · exact .inr (.inl h)
    · exact .inl h
    · exact .inr (.inr h)
  · rintro (h | h | h)
    · exact .inr (.inl h)
    · exact .inl h
    · exact .inr (.inr h)
/-- a list that is being made at D is kept out -/
theorem keep_outN {K : PySem.W.Frag} {H H' : Hp} {w : Wd} {D : Addr} (hD : Nw H D) (f : Fr w.α H H') (hk : ∃ o, H' D = some o) : Same (dl H w.all) (dl H' (wk' w D).all) := fun b o hb => by
  have nt := dl_nt hb
  obtain ⟨n1, e1⟩ := dl_some hb
  exact dl_of (fun z => (all_wk'.mp z).elim (Nw.ne e1 nt hD) n1) (f b o e1 (fun z => n1 (List.mem_append_left _ z)) nt) nt
theorem keep_out {K : PySem.W.Frag} {H H' : Hp} {w : Wd} {D : Addr} (hD : H D = none) (f : Fr w.α H H') (hk : ∃ o, H' D = some o) : Same (dl H w.all) (dl H' (wk' w D).all) := fun b o hb => by
  have nt := dl_nt hb
  obtain ⟨n1, e1⟩ := dl_some hb
  have nb : b ≠ D := ne_of_none e1 hD
  exact dl_of (fun z => (all_wk'.mp z).elim nb n1) (f b o e1 (fun z => n1 (List.mem_append_left _ z)) nt) nt
theorem Mem.keep {K : PySem.W.Frag} {H : Hp} {w : Wd} {D : Addr} {o : HO} {μ : Sto} (m : Mem K H w μ) (hD : H D = none) (po : Pl o := by exact ⟨(fun q z => by cases z), (fun q z => by cases z)⟩) : Mem K (upd H D o) (wk' w D) μ := by
  have f : Fr w.α H (upd H D o) := Fr.of_same (Same.new hD)
  have g := keep_out (K := K) (H := H) (H' := upd H D o) (w := w) hD f ⟨o, upd_same⟩
  refine ⟨m.cst, m.nd, m.len, fun k a xs h1 h2 => ?_, fun b hb => ?_, fun b hb => ?_, m.tab.ext (Same.new hD)⟩
  · obtain ⟨vs, e, hd⟩ := m.cell k a xs h1 h2
    exact ⟨vs, Same.new hD _ _ e, dqAll_mono g _ _ hd⟩
  · rcases List.mem_cons.mp hb with rfl | hb
    · exact m.fresh hD
    · exact m.out b hb
  · rcases List.mem_cons.mp hb with rfl | hb
    · exact ⟨o, upd_same, po⟩
    · obtain ⟨u, e, pu⟩ := m.ext b hb
      exact ⟨u, Same.new hD _ _ e, pu⟩
/-- the list at D changes; nothing else knows it -/
theorem Mem.outs {K : PySem.W.Frag} {H : Hp} {w : Wd} {D : Addr} {o : HO} {μ : Sto} (m : Mem K H (wk' w D) μ) (po : Pl o := by exact ⟨(fun q z => by cases z), (fun q z => by cases z)⟩) : Mem K (upd H D o) (wk' w D) μ := by
  have hDa : D ∉ w.α := m.out D List.mem_cons_self
  have g : Same (dl H (wk' w D).all) (dl (upd H D o) (wk' w D).all) := fun b u hb => by
    have nt := dl_nt hb
    obtain ⟨n1, e1⟩ := dl_some hb
    exact dl_of n1 (by rw [upd_ne fun z => n1 (all_wk'.mpr (.inl z))]; exact e1) nt
  refine ⟨m.cst, m.nd, m.len, fun k a xs h1 h2 => ?_, m.out, fun b hb => ?_, tabs_upd m.tab fun u e => ?_⟩
  · obtain ⟨vs, e, hd⟩ := m.cell k a xs h1 h2
    refine ⟨vs, ?_, dqAll_mono g _ _ hd⟩
    have na : a ≠ D := fun z => hDa (by rw [← z]; exact List.mem_iff_getElem?.mpr ⟨k, h1⟩)
    rw [upd_ne na]
    exact e
  · by_cases hb' : b = D
    · rw [hb']
      exact ⟨o, upd_same, po⟩
    · obtain ⟨u, e, pu⟩ := m.ext b hb
      exact ⟨u, by rw [upd_ne hb']; exact e, pu⟩
  · obtain ⟨u', e', pu⟩ := m.ext D List.mem_cons_self
    rw [e] at e'
    cases e'
    exact pu
theorem same_outs {H : Hp} {w : Wd} {D : Addr} {o : HO} : Same (dl H (wk' w D).all) (dl (upd H D o) (wk' w D).all) := fun b u hb => by
  have nt := dl_nt hb
  obtain ⟨n1, e1⟩ := dl_some hb
  exact dl_of n1 (by rw [upd_ne fun z => n1 (all_wk'.mpr (.inl z))]; exact e1) nt
theorem Mem.unkeep {K : PySem.W.Frag} {H : Hp} {w : Wd} {D : Addr} {μ : Sto} (m : Mem K H (wk' w D) μ) : Mem K H w μ :=
  ⟨m.cst, m.nd, m.len, fun k a xs h1 h2 => let ⟨vs, e, hd⟩ := m.cell k a xs h1 h2; ⟨vs, e, dqAll_mono (dl_sub fun b hb => all_wk'.mpr (.inr hb)) _ _ hd⟩, fun b hb => m.out b (List.mem_cons_of_mem _ hb), fun b hb => m.ext b (List.mem_cons_of_mem _ hb), m.tab⟩

/-! ### the readings of a piece, whatever its rule -/
section
variable (X : Cx)
def EX (e : Expr) : TE := fun σ H Q => ∃ t, PE X e t ∧ t σ H Q
def TX (e : Expr) : TT := fun σ H Q => ∃ t, PT X e t ∧ t σ H Q
def AX (es : List Expr) : TA := fun σ H Q => ∃ t, PA X es t ∧ t σ H Q
def GX (e : Expr) : TG := fun v σ H Q => ∃ t, PG X e t ∧ t v σ H Q
def GsX (e : List Expr) : TGs := fun v σ H Q => ∃ t, PGs X e t ∧ t v σ H Q
def IX (tg iter : Expr) : TI := fun σ H R => ∃ t, PI X tg iter t ∧ t σ H R
def OX (e : Option Expr) : TO := fun σ H Q => ∃ t, PO X e t ∧ t σ H Q
def SX (st : List Stmt) : TS := fun D σ H => ∃ t, PSs X st t ∧ t D σ H
end
section
variable {X : Cx}
theorem p_ex {e : Expr} : PE X e (EX X e) := ⟨fun pins s σ H Q I h => let ⟨_, p, q⟩ := h; p.run pins s σ H Q I q⟩
theorem p_tx {e : Expr} : PT X e (TX X e) := ⟨fun pins s σ H Q I h => let ⟨_, p, q⟩ := h; p.run pins s σ H Q I q⟩
theorem p_ax {e : List Expr} : PA X e (AX X e) := ⟨fun pos pins s σ H Q I h => let ⟨_, p, q⟩ := h; p.run pos pins s σ H Q I q⟩
theorem p_gx {e : Expr} : PG X e (GX X e) := ⟨fun pins s σ H v u Q I r h => let ⟨_, p, q⟩ := h; p.run pins s σ H v u Q I r q⟩
theorem p_gsx {e : List Expr} : PGs X e (GsX X e) := ⟨fun pins s σ H v u Q I r h => let ⟨_, p, q⟩ := h; p.run pins s σ H v u Q I r q⟩
theorem p_ix {tg e : Expr} : PI X tg e (IX X tg e) := ⟨fun pins s σ H Q I h => let ⟨_, p, q⟩ := h; p.run pins s σ H Q I q⟩
theorem p_ox {e : Option Expr} : PO X e (OX X e) := ⟨fun pins s σ H Q I h => let ⟨_, p, q⟩ := h; p.run pins s σ H Q I q⟩
theorem p_sx {e : List Stmt} : PSs X e (SX X e) := ⟨fun pins s σ H D I h => let ⟨_, p, q⟩ := h; p.run pins s σ H D I q⟩
end

/-! ### what an expression comes to -/
section
variable (X : Cx)
def EV (e : Expr) (ρ : REnv) (μ : Sto) (r : Ent) (μ' : Sto) : Prop :=
  ∀ w σ H, Mem X.K H w μ → Sl X.K H w σ ρ → ∀ Q : VK, (∀ v H', Mem X.K H' w μ' → Fr w.α H H' → Val X.K H' w v r → Q v H') → EX X e σ H Q
/-- a new list of the code's own -/
def EVF (e : Expr) (ρ : REnv) (μ : Sto) (xs : List PyData) (μ' : Sto) : Prop :=
  ∀ w σ H, Mem X.K H w μ → Sl X.K H w σ ρ → ∀ Q : VK, (∀ p H' vs, Mem X.K H' (wk' w p) μ' → Fr w.α H H' → Nw H p → H' p = some (.lst vs) → DqAll (dl H' (wk' w p).all) vs xs → Q (.ref p) H') → EX X e σ H Q
def TV (e : Expr) (ρ : REnv) (μ : Sto) (b : Bool) (μ' : Sto) : Prop :=
  ∀ w σ H, Mem X.K H w μ → Sl X.K H w σ ρ → ∀ Q : Bool → Hp → Prop, (∀ H', Mem X.K H' w μ' → Fr w.α H H' → Q b H') → TX X e σ H Q
/-- an object as data, and back -/
theorem EV.obd {X : Cx} {e : Expr} {ρ : REnv} {μ μ1 : Sto} {C : Addr} {fs : List (Str × PyData)} (h : EV X e ρ μ (.obj C fs) μ1) : EV X e ρ μ (.dat (obD C fs)) μ1 := fun w σ H m s Q q => h w σ H m s Q fun v H' m' f hv => q v H' m' f (val_obD hv)
theorem EV.dob {X : Cx} {e : Expr} {ρ : REnv} {μ μ1 : Sto} {C : Addr} {fs : List (Str × PyData)} (h : EV X e ρ μ (.dat (obD C fs)) μ1) : EV X e ρ μ (.obj C fs) μ1 := fun w σ H m s Q q => h w σ H m s Q fun v H' m' f hv => q v H' m' f (val_obj hv)
/-- several values -/
def Vas (K : PySem.W.Frag) (H : Hp) (w : Wd) (vs : List V) (rs : List Ent) : Prop := vs.length = rs.length ∧ ∀ (i : Nat) v r, vs[i]? = some v → rs[i]? = some r → Val K H w v r
def AV (e : List Expr) (ρ : REnv) (μ : Sto) (rs : List Ent) (μ' : Sto) : Prop :=
  ∀ w σ H, Mem X.K H w μ → Sl X.K H w σ ρ → ∀ Q : List V → Hp → Prop, (∀ vs H', Mem X.K H' w μ' → Fr w.α H H' → Vas X.K H' w vs rs → Q vs H') → AX X e σ H Q
end
theorem Vas.fr {K : PySem.W.Frag} {H H' : Hp} {w : Wd} {vs : List V} {rs : List Ent} (h : Vas K H w vs rs) (f : Fr w.α H H') : Vas K H' w vs rs := ⟨h.1, fun i v r a b => (h.2 i v r a b).fr f⟩
theorem Vas.nil {K : PySem.W.Frag} {H : Hp} {w : Wd} : Vas K H w [] [] := ⟨rfl, fun i v r a b => by simp at a⟩
theorem Vas.cons {K : PySem.W.Frag} {H : Hp} {w : Wd} {v : V} {vs : List V} {r : Ent} {rs : List Ent} (a : Val K H w v r) (h : Vas K H w vs rs) : Vas K H w (v :: vs) (r :: rs) := by
  refine ⟨by simp [h.1], fun i x y hx hy => ?_⟩
  cases i with
  | zero => simp at hx hy; subst hx; subst hy; exact a
  | succ i => simp at hx hy; exact h.2 i x y hx hy
theorem Vas.inv {K : PySem.W.Frag} {H : Hp} {w : Wd} {vs : List V} {r : Ent} {rs : List Ent} (h : Vas K H w vs (r :: rs)) : ∃ v us, vs = v :: us ∧ Val K H w v r ∧ Vas K H w us rs := by
  obtain ⟨hl, ha⟩ := h
  cases vs with
  | nil => simp at hl
  | cons v us =>
    refine ⟨v, us, rfl, ha 0 v r (by simp) (by simp), by simpa using hl, fun i x y hx hy => ha (i + 1) x y (by simpa using hx) (by simpa using hy)⟩
theorem Vas.inv0 {K : PySem.W.Frag} {H : Hp} {w : Wd} {vs : List V} (h : Vas K H w vs []) : vs = [] := by
  obtain ⟨hl, ha⟩ := h
  cases vs with
  | nil => rfl
  | cons v us => simp at hl
abbrev Ii (i : Int) : Ent := .dat (.int i)
abbrev Ss (s : Str) : Ent := .dat (.str s)
abbrev Bb (b : Bool) : Ent := .dat (.bool b)
abbrev Nn : Ent := .dat .none
abbrev Ls (ds : List PyData) : Ent := .dat (.list ds)
abbrev Tp (ds : List PyData) : Ent := .dat (.tuple ds)

/-- an operation on two values that yields a third -/
def R2V (K : PySem.W.Frag) (r : R2) (x y z : Ent) (μ : Sto) : Prop := ∀ w H v u, Mem K H w μ → Val K H w v x → Val K H w u y → ∀ Q : VK, (∀ t H', Mem K H' w μ → Fr w.α H H' → Val K H' w t z → Q t H') → r v u H Q

section
variable {X : Cx} {ρ : REnv} {μ μ1 μ2 μ3 : Sto} {x y z r : Ent} {a b c e : Expr} {pos p2 : Pos}
theorem EV.name {i : Nat} {n : Str} (hN : X.N[i]? = some n) (hv : Vis X.env.scope n) (h : ρ[i]? = some (some r)) (hd : (n == ("__debug__" : Str)) = false := by decide) (hcd : (n == ("__classdict__" : Str)) = false := by decide) : EV X (.Name n pos) ρ μ r μ := by
  intro w σ H m s Q q
  obtain ⟨v, e, hr⟩ := s.at_ i r h
  exact ⟨_, pe_var hN hv hd hcd, v, e, q v H m .refl hr⟩
theorem EV.int {i : Int} {j} : EV X (.Constant (.int i) j pos) ρ μ (Ii i) μ := fun w σ H m s Q q => ⟨_, pe_int, q _ _ m .refl (Dq.int i)⟩
theorem EV.str {i : Str} {j} : EV X (.Constant (.str i) j pos) ρ μ (Ss i) μ := fun w σ H m s Q q => ⟨_, pe_str, q _ _ m .refl (Dq.str i)⟩
theorem EV.bl {i : Bool} {j} : EV X (.Constant (.bool i) j pos) ρ μ (Bb i) μ := fun w σ H m s Q q => ⟨_, pe_bl, q _ _ m .refl (Dq.bl i)⟩
theorem EV.non {j} : EV X (.Constant .none j pos) ρ μ Nn μ := fun w σ H m s Q q => ⟨_, pe_non, q _ _ m .refl Dq.non⟩
theorem EV.eq {z' : Ent} (h : EV X e ρ μ z μ1) (q : z = z') : EV X e ρ μ z' μ1 := q ▸ h
theorem EV.op {op : Operator} {r : R2} (ho : OpR X (binaryOp op) r) (ha : EV X a ρ μ x μ1) (hb : EV X b ρ μ1 y μ2) (hr : R2V X.K r x y z μ2) : EV X (.BinOp a op b pos) ρ μ z μ2 := by
  intro w σ H m s Q q
  refine ⟨_, pe_op ho (p_ex (e := a)) (p_ex (e := b)), ?_⟩
  refine ha w σ H m s _ fun v H1 m1 f1 h1 => ?_
  refine hb w σ H1 m1 (s.fr f1) _ fun u H2 m2 f2 h2 => ?_
  exact hr w H2 v u m2 (h1.fr f2) h2 Q fun t H3 m3 f3 h3 => q t H3 m3 ((f1.trans f2).trans f3) h3
theorem EV.cmp {op : CmpOp} {r : R2} (ho : OpR X (compareOp op) r) (hm : behindInMarks op b = false) (ha : EV X a ρ μ x μ1) (hb : EV X b ρ μ1 y μ2) (hr : R2V X.K r x y z μ2) : EV X (.Compare a [op] [b] pos) ρ μ z μ2 := by
  intro w σ H m s Q q
  refine ⟨_, pe_cmpR ho (p_ex (e := a)) (p_ex (e := b)) hm, ?_⟩
  refine ha w σ H m s _ fun v H1 m1 f1 h1 => ?_
  refine hb w σ H1 m1 (s.fr f1) _ fun u H2 m2 f2 h2 => ?_
  exact hr w H2 v u m2 (h1.fr f2) h2 Q fun t H3 m3 f3 h3 => q t H3 m3 ((f1.trans f2).trans f3) h3
theorem TV.cmp {op : CmpOp} {r : R2} {k : Bool} (ho : OpR X (compareOp op) r) (hm : behindInMarks op b = false) (ha : EV X a ρ μ x μ1) (hb : EV X b ρ μ1 y μ2) (hr : R2V X.K r x y (Bb k) μ2) : TV X (.Compare a [op] [b] pos) ρ μ k μ2 := by
  intro w σ H m s Q q
  refine ⟨_, pt_cmpR ho (p_ex (e := a)) (p_ex (e := b)) hm, ?_⟩
  refine ha w σ H m s _ fun v H1 m1 f1 h1 => ?_
  refine hb w σ H1 m1 (s.fr f1) _ fun u H2 m2 f2 h2 => ?_
  refine hr w H2 v u m2 (h1.fr f2) h2 _ fun t H3 m3 f3 h3 => ?_
  cases h3
  exact ⟨k, rfl, q H3 m3 ((f1.trans f2).trans f3)⟩
/-- a written test that is a value -/
theorem TV.val {k : Bool} (h : EV X e ρ μ (Bb k) μ1) (he : ∀ whole, isTrue e X.env whole = (do let v ← whole; standAt e.pos; holding [v] (truthy v)) := by intro _; rfl) : TV X e ρ μ k μ1 := by
  intro w σ H m s Q q
  refine ⟨_, pt_val (p_ex (e := e)) he, ?_⟩
  refine h w σ H m s _ fun v H1 m1 f1 h1 => ?_
  cases h1
  exact ⟨k, rfl, q H1 m1 f1⟩
theorem TV.not {k : Bool} (h : TV X a ρ μ k μ1) : TV X (.UnaryOp .Not a pos) ρ μ (!k) μ1 := by
  intro w σ H m s Q q
  refine ⟨_, pt_not (p_tx (e := a)), ?_⟩
  exact h w σ H m s _ fun H1 m1 f1 => q H1 m1 f1
theorem TV.eq {k k' : Bool} (h : TV X e ρ μ k μ1) (q : k = k') : TV X e ρ μ k' μ1 := q ▸ h
/-- chains of and, or -/
def WV (X : Cx) (e : Expr) (ρ : REnv) (μ : Sto) (b : Bool) (μ' : Sto) : Prop :=
  ∀ w σ H, Mem X.K H w μ → Sl X.K H w σ ρ → ∀ Q : Bool → Hp → Prop, (∀ H', Mem X.K H' w μ' → Fr w.α H H' → Q b H') → ∃ t, PW X e t ∧ t σ H Q
theorem pw_any {e : Expr} : PW X e (fun σ H Q => ∃ t, PW X e t ∧ t σ H Q) := ⟨fun wh pins s σ H Q I h => let ⟨_, p, q⟩ := h; p.run wh pins s σ H Q I q⟩
theorem WV.tv {k : Bool} (h : WV X e ρ μ k μ1) : TV X e ρ μ k μ1 := fun w σ H m s Q q => let ⟨t, p, r⟩ := h w σ H m s Q q; ⟨t, p.pt, r⟩
theorem WV.and1 {k : Bool} (h : TV X a ρ μ k μ1) : WV X (.BoolOp .And [a] pos) ρ μ k μ1 := fun w σ H m s Q q => ⟨_, pw_and1 (p_tx (e := a)), h w σ H m s Q q⟩
theorem WV.or1 {k : Bool} (h : TV X a ρ μ k μ1) : WV X (.BoolOp .Or [a] pos) ρ μ k μ1 := fun w σ H m s Q q => ⟨_, pw_or1 (p_tx (e := a)), h w σ H m s Q q⟩
theorem WV.and {k l : Bool} {es : List Expr} (h : TV X a ρ μ k μ1) (h0 : k = false → μ2 = μ1 ∧ l = false) (h2 : k = true → WV X (.BoolOp .And (b :: es) pos) ρ μ1 l μ2) : WV X (.BoolOp .And (a :: b :: es) pos) ρ μ l μ2 := by
  intro w σ H m s Q q
  refine ⟨_, pw_and (p_tx (e := a)) (pw_any (e := .BoolOp .And (b :: es) pos)), ?_⟩
  refine h w σ H m s _ fun H1 m1 f1 => ?_
  cases k with
  | true =>
    refine iteT ?_
    exact h2 rfl w σ H1 m1 (s.fr f1) Q fun H2 m2 f2 => q H2 m2 (f1.trans f2)
  | false =>
    refine iteF ?_
    obtain ⟨rfl, rfl⟩ := h0 rfl
    exact q H1 m1 f1
theorem WV.or {k l : Bool} {es : List Expr} (h : TV X a ρ μ k μ1) (h0 : k = true → μ2 = μ1 ∧ l = true) (h2 : k = false → WV X (.BoolOp .Or (b :: es) pos) ρ μ1 l μ2) : WV X (.BoolOp .Or (a :: b :: es) pos) ρ μ l μ2 := by
  intro w σ H m s Q q
  refine ⟨_, pw_or (p_tx (e := a)) (pw_any (e := .BoolOp .Or (b :: es) pos)), ?_⟩
  refine h w σ H m s _ fun H1 m1 f1 => ?_
  cases k with
  | false =>
    refine iteF ?_
    exact h2 rfl w σ H1 m1 (s.fr f1) Q fun H2 m2 f2 => q H2 m2 (f1.trans f2)
  | true =>
    refine iteT ?_
    obtain ⟨rfl, rfl⟩ := h0 rfl
    exact q H1 m1 f1
/-- as values, all True or False -/
theorem EV.one {op} (h : EV X a ρ μ x μ1) : EV X (.BoolOp op [a] pos) ρ μ x μ1 := fun w σ H m s Q q => ⟨_, pe_one (p_ex (e := a)), h w σ H m s Q q⟩
theorem EV.and {k : Bool} {es : List Expr} (h : EV X a ρ μ (Bb k) μ1) (h0 : k = false → μ2 = μ1 ∧ z = Bb false) (h2 : k = true → EV X (.BoolOp .And (b :: es) pos) ρ μ1 z μ2) : EV X (.BoolOp .And (a :: b :: es) pos) ρ μ z μ2 := by
  intro w σ H m s Q q
  refine ⟨_, pe_and (p_ex (e := a)) (p_ex (e := .BoolOp .And (b :: es) pos)), ?_⟩
  refine h w σ H m s _ fun v H1 m1 f1 h1 => ?_
  cases h1
  refine ⟨k, rfl, ?_⟩
  cases k with
  | true =>
    refine iteT ?_
    exact h2 rfl w σ H1 m1 (s.fr f1) Q fun v H2 m2 f2 => q v H2 m2 (f1.trans f2)
  | false =>
    refine iteF ?_
    obtain ⟨rfl, rfl⟩ := h0 rfl
    exact q _ H1 m1 f1 (Dq.bl false)
theorem EV.or {k : Bool} {es : List Expr} (h : EV X a ρ μ (Bb k) μ1) (h0 : k = true → μ2 = μ1 ∧ z = Bb true) (h2 : k = false → EV X (.BoolOp .Or (b :: es) pos) ρ μ1 z μ2) : EV X (.BoolOp .Or (a :: b :: es) pos) ρ μ z μ2 := by
  intro w σ H m s Q q
  refine ⟨_, pe_or (p_ex (e := a)) (p_ex (e := .BoolOp .Or (b :: es) pos)), ?_⟩
  refine h w σ H m s _ fun v H1 m1 f1 h1 => ?_
  cases h1
  refine ⟨k, rfl, ?_⟩
  cases k with
  | false =>
    refine iteF ?_
    exact h2 rfl w σ H1 m1 (s.fr f1) Q fun v H2 m2 f2 => q v H2 m2 (f1.trans f2)
  | true =>
    refine iteT ?_
    obtain ⟨rfl, rfl⟩ := h0 rfl
    exact q _ H1 m1 f1 (Dq.bl true)
theorem EV.not {k : Bool} (h : EV X a ρ μ (Bb k) μ1) : EV X (.UnaryOp .Not a pos) ρ μ (Bb !k) μ1 := by
  intro w σ H m s Q q
  refine ⟨_, pe_not (p_ex (e := a)), ?_⟩
  refine h w σ H m s _ fun v H1 m1 f1 h1 => ?_
  cases h1
  exact ⟨k, rfl, q _ H1 m1 f1 (Dq.bl _)⟩
theorem EV.ifx {k : Bool} (hc : TV X c ρ μ k μ1) (h1 : k = true → EV X a ρ μ1 z μ2) (h2 : k = false → EV X b ρ μ1 z μ2) : EV X (.IfExp c a b pos) ρ μ z μ2 := by
  intro w σ H m s Q q
  refine ⟨_, pe_ifExp (p_tx (e := c)) (p_ex (e := a)) (p_ex (e := b)), ?_⟩
  refine hc w σ H m s _ fun H1 m1 f1 => ?_
  cases k with
  | true => exact iteT (h1 rfl w σ H1 m1 (s.fr f1) Q fun v H2 m2 f2 => q v H2 m2 (f1.trans f2))
  | false => exact iteF (h2 rfl w σ H1 m1 (s.fr f1) Q fun v H2 m2 f2 => q v H2 m2 (f1.trans f2))
theorem AV.nil : AV X [] ρ μ [] μ := fun w σ H m s Q q => ⟨_, pa_nil, q [] H m .refl .nil⟩
theorem AV.cons {es : List Expr} {rs : List Ent} (h : EV X e ρ μ x μ1) (hr : AV X es ρ μ1 rs μ2) (hs : starEach (e :: es) X.env = (false, eval e X.env) :: starEach es X.env := by rfl) : AV X (e :: es) ρ μ (x :: rs) μ2 := by
  intro w σ H m s Q q
  refine ⟨_, pa_cons (p_ex (e := e)) (p_ax (e := es)) hs, ?_⟩
  refine h w σ H m s _ fun v H1 m1 f1 h1 => ?_
  refine hr w σ H1 m1 (s.fr f1) _ fun vs H2 m2 f2 h2 => ?_
  exact q (v :: vs) H2 m2 (f1.trans f2) (.cons (h1.fr f2) h2)
end
def dats (rs : List PyData) : List Ent := rs.map .dat
theorem Vas.dats {K : PySem.W.Frag} {H : Hp} {w : Wd} : ∀ {ds : List PyData} {vs : List V}, Vas K H w vs (dats ds) → DqAll (dl H w.all) vs ds
  | [], vs, h => by rw [Vas.inv0 h]; exact .nil
  | d :: ds, vs, h => by
    obtain ⟨v, us, rfl, h1, h2⟩ := Vas.inv h
    exact .cons h1 (Vas.dats h2)
section
variable {X : Cx} {ρ : REnv} {μ μ1 μ2 μ3 : Sto} {ds : List PyData} {es : List Expr} {pos : Pos} {K : PySem.W.Frag} {H : Hp} {w : Wd}
theorem dl_new {p : Addr} {o : HO} {S : List Addr} (hp : H p = none) : Same (dl H S) (dl (upd H p o) S) := (Fr.of_same (S := S) (Same.new hp)).sameDl fun _ h => h
/-- a new object at p that is no cell -/
theorem val_tup {p : Addr} {vs : List V} (m : Mem K H w μ) (hp : H p = none) (h : DqAll (dl H w.all) vs ds) : Val K (upd H p (.tup vs)) w (.ref p) (Tp ds) := by
  have hn : p ∉ w.all := m.freshA hp
  exact Dq.tup (dl_of hn upd_same) (dqAll_mono (dl_new hp) _ _ h)
theorem val_lst {p : Addr} {vs : List V} (m : Mem K H w μ) (hp : H p = none) (h : DqAll (dl H w.all) vs ds) : Val K (upd H p (.lst vs)) w (.ref p) (Ls ds) := by
  have hn : p ∉ w.all := m.freshA hp
  exact Dq.lst (dl_of hn upd_same) (dqAll_mono (dl_new hp) _ _ h)
end
end J
/-! J2: rules for expressions, by data. -/
namespace J
open PySem PySem.Spec
open PyProof.Rows L2
variable [KC]

section
variable {K : PySem.W.Frag} {μ : Sto} {i j : Int} {s t : Str} {ds es : List PyData} {d e : PyData} {b k : Bool}
/-- the answer of an operation that leaves the heap -/
theorem r2v_pure {r : R2} {x y z : Ent} (h : ∀ w H v u, Mem K H w μ → Val K H w v x → Val K H w u y → ∃ t, Val K H w t z ∧ ∀ Q : VK, Q t H → r v u H Q) : R2V K r x y z μ := fun w H v u m h1 h2 Q q => by
  obtain ⟨t, ht, hr⟩ := h w H v u m h1 h2
  exact hr Q (q t H m .refl ht)
theorem r2_I0 {g : Int → Int → V} {z : PyData} (hz : ∀ H, Dq H (g i j) z) : R2V K (rI0 g) (Ii i) (Ii j) (.dat z) μ := r2v_pure fun w H v u m h1 h2 => by
  cases h1
  cases h2
  exact ⟨g i j, hz _, fun Q q => ⟨i, j, rfl, rfl, q⟩⟩
theorem r2_I {C : Int → Int → Prop} {g : Int → Int → V} {z : PyData} (hc : C i j) (hz : ∀ H, Dq H (g i j) z) : R2V K (rI C g) (Ii i) (Ii j) (.dat z) μ := r2v_pure fun w H v u m h1 h2 => by
  cases h1
  cases h2
  exact ⟨g i j, hz _, fun Q q => ⟨i, j, rfl, rfl, hc, q⟩⟩
def scalD : PyData → Bool
  | .none | .bool _ | .int _ | .str _ => true
  | _ => false
/-- == of two of None, bools, ints, texts, of like kinds or None -/
def likeD : PyData → PyData → Bool
  | .bool _, .bool _ => true
  | .int _, .int _ => true
  | .str _, .str _ => true
  | _, _ => false
def eqS : PyData → PyData → Bool
  | .bool a, .bool b => a == b
  | .int a, .int b => a == b
  | .str a, .str b => a == b
  | _, _ => false
theorem likeD_three {d e : PyData} (h : likeD d e = true) : (∃ a b, d = .bool a ∧ e = .bool b) ∨ (∃ a b, d = .int a ∧ e = .int b) ∨ ∃ a b, d = .str a ∧ e = .str b := by
  cases d with
  | bool a => cases e with
    | bool b => exact .inl ⟨a, b, rfl, rfl⟩
    | _ => cases h
  | int a => cases e with
    | int b => exact .inr (.inl ⟨a, b, rfl, rfl⟩)
    | _ => cases h
  | str a => cases e with
    | str b => exact .inr (.inr ⟨a, b, rfl, rfl⟩)
    | _ => cases h
  | _ => cases h
theorem dq_blI {H : Hp} {v : V} {a : Bool} (h : Dq H v (.bool a)) : v = .bl a := by
  cases h
  rfl
theorem dq_intI {H : Hp} {v : V} {a : Int} (h : Dq H v (.int a)) : v = .int a := by
  cases h
  rfl
theorem dq_strI {H : Hp} {v : V} {a : Str} (h : Dq H v (.str a)) : v = .str a := by
  cases h
  rfl
theorem r2_eq (h : likeD d e = true) : R2V K rEq (.dat d) (.dat e) (Bb (eqS d e)) μ := r2v_pure fun w H v u m h1 h2 => by
  rcases likeD_three h with ⟨a, b, rfl, rfl⟩ | ⟨a, b, rfl, rfl⟩ | ⟨a, b, rfl, rfl⟩
  · obtain rfl := dq_blI h1
    obtain rfl := dq_blI h2
    exact ⟨_, Dq.bl _, fun Q q => ⟨rfl, by rw [dec_bl]; exact q⟩⟩
  · obtain rfl := dq_intI h1
    obtain rfl := dq_intI h2
    exact ⟨_, Dq.bl _, fun Q q => ⟨rfl, by rw [dec_int]; exact q⟩⟩
  · obtain rfl := dq_strI h1
    obtain rfl := dq_strI h2
    exact ⟨_, Dq.bl _, fun Q q => ⟨rfl, by rw [dec_str]; exact q⟩⟩
theorem r2_ne (h : likeD d e = true) : R2V K rNe (.dat d) (.dat e) (Bb (!eqS d e)) μ := r2v_pure fun w H v u m h1 h2 => by
  rcases likeD_three h with ⟨a, b, rfl, rfl⟩ | ⟨a, b, rfl, rfl⟩ | ⟨a, b, rfl, rfl⟩
  · obtain rfl := dq_blI h1
    obtain rfl := dq_blI h2
    exact ⟨_, Dq.bl _, fun Q q => ⟨rfl, by rw [dec_bl]; exact q⟩⟩
  · obtain rfl := dq_intI h1
    obtain rfl := dq_intI h2
    exact ⟨_, Dq.bl _, fun Q q => ⟨rfl, by rw [dec_int]; exact q⟩⟩
  · obtain rfl := dq_strI h1
    obtain rfl := dq_strI h2
    exact ⟨_, Dq.bl _, fun Q q => ⟨rfl, by rw [dec_str]; exact q⟩⟩
/-- == at any depth -/
theorem r2_eqD (h1 : SeqAt.shaped d = true) (h2 : SeqAt.shaped e = true) : R2V K (rEqD K) (.dat d) (.dat e) (Bb (PyData.eqv d e)) μ := r2v_pure fun w H v u m a b =>
  ⟨_, Dq.bl _, fun Q q => ⟨d, e, Dq.dp (Mem.cst (by assumption)) dl_same _ _ a (SeqAt.canLay_of_shaped h1), Dq.dp (Mem.cst (by assumption)) dl_same _ _ b (SeqAt.canLay_of_shaped h2), h1, h2, q⟩⟩
theorem r2_neD (h1 : SeqAt.shaped d = true) (h2 : SeqAt.shaped e = true) : R2V K (rNeD K) (.dat d) (.dat e) (Bb (!PyData.eqv d e)) μ := r2v_pure fun w H v u m a b =>
  ⟨_, Dq.bl _, fun Q q => ⟨d, e, Dq.dp (Mem.cst (by assumption)) dl_same _ _ a (SeqAt.canLay_of_shaped h1), Dq.dp (Mem.cst (by assumption)) dl_same _ _ b (SeqAt.canLay_of_shaped h2), h1, h2, q⟩⟩
def isNone : PyData → Bool
  | .none => true
  | _ => false
theorem dq_isNone {H : Hp} {v : V} (h : Dq H v d) : decide (v = .non) = isNone d := by
  cases h <;> simp [isNone]
theorem r2_isN : R2V K (fun x y H Q => y = .non ∧ Q (.bl (decide (x = .non))) H) (.dat d) Nn (Bb (isNone d)) μ := r2v_pure fun w H v u m a b => by
  cases b
  exact ⟨_, Dq.bl _, fun Q q => ⟨rfl, by rw [dq_isNone a]; exact q⟩⟩
theorem r2_notN : R2V K (fun x y H Q => y = .non ∧ Q (.bl (!decide (x = .non))) H) (.dat d) Nn (Bb (!isNone d)) μ := r2v_pure fun w H v u m a b => by
  cases b
  exact ⟨_, Dq.bl _, fun Q q => ⟨rfl, by rw [dq_isNone a]; exact q⟩⟩
theorem r2_addS (h : s.length + t.length ≤ sizeLine) : R2V K (fun x y H Q => ∃ i j, x = V.str i ∧ y = V.str j ∧ i.length + j.length ≤ sizeLine ∧ Q (.str (i ++ j)) H) (Ss s) (Ss t) (Ss (s ++ t)) μ := r2v_pure fun w H v u m a b => by
  cases a
  cases b
  exact ⟨_, Dq.str _, fun Q q => ⟨s, t, rfl, rfl, h, q⟩⟩
/-- a new list, a new tuple -/
theorem new_lst {H : Hp} {w : Wd} {vs : List V} {Q : VK} (m : Mem K H w μ) (h : DqAll (dl H w.all) vs ds) (q : ∀ v H', Mem K H' w μ → Fr w.α H H' → Val K H' w v (Ls ds) → Q v H') : ∀ p, H p = none → Q (.ref p) (upd H p (.lst vs)) := fun p hp =>
  q _ _ (m.new hp) (Fr.of_same (Same.new hp)) (val_lst m hp h)
theorem new_tup {H : Hp} {w : Wd} {vs : List V} {Q : VK} (m : Mem K H w μ) (h : DqAll (dl H w.all) vs ds) (q : ∀ v H', Mem K H' w μ → Fr w.α H H' → Val K H' w v (Tp ds) → Q v H') : ∀ p, H p = none → Q (.ref p) (upd H p (.tup vs)) := fun p hp =>
  q _ _ (m.new hp) (Fr.of_same (Same.new hp)) (val_tup m hp h)
theorem r2_cat (h : ds.length + es.length ≤ sizeLine) : R2V K rCat (Ls ds) (Ls es) (Ls (ds ++ es)) μ := fun w H v u m a b Q q => by
  cases a with
  | lst ha hd =>
    cases b with
    | lst hb he =>
      exact ⟨_, _, _, _, rfl, rfl, (dl_some ha).2, (dl_some hb).2, by rw [dqAll_len hd, dqAll_len he]; exact h, new_lst m (dqAll_append hd he) q⟩
theorem r2_catT (h : ds.length + es.length ≤ sizeLine) : R2V K (rCatA K) (Tp ds) (Tp es) (Tp (ds ++ es)) μ := fun w H v u m a b Q q => by
  have a' : Val K H w v (Tp ds) := a
  have b' : Val K H w u (Tp es) := b
  obtain ⟨a0_, vs0_, rfl, ha, hd⟩ := Dq.tupE m.cst a
  obtain ⟨b0_, us0_, rfl, hb, he⟩ := Dq.tupE m.cst b
  exact by
      refine ⟨_, _, _, _, rfl, rfl, ha _ dl_same, hb _ dl_same, by rw [dqAll_len hd, dqAll_len he]; exact h, fun z => ?_, fun _ z => ?_, fun _ _ => new_tup m (dqAll_append hd he) q⟩
      · subst z
        cases hd
        exact q _ _ m .refl b'
      · subst z
        cases he
        rw [List.append_nil] at q
        exact q _ _ m .refl a'
/-! ### in -/
def flatD : PyData → Bool
  | .none | .bool _ | .int _ | .str _ => true
  | _ => false
def eqF : PyData → PyData → Bool
  | .none, .none => true
  | .bool a, .bool b => a == b
  | .bool a, .int b => (if a then 1 else 0) == b
  | .int a, .bool b => a == (if b then 1 else 0)
  | .int a, .int b => a == b
  | .str a, .str b => a == b
  | _, _ => false
def inD (x : PyData) (xs : List PyData) : Bool := xs.any fun y => eqF y x
theorem dq_flat {H : Hp} {v : V} (h : Dq H v d) : flatV v = flatD d := by cases h <;> rfl
theorem dq_eqF {H : Hp} {v u : V} (h : Dq H v d) (g : Dq H u e) : eqV v u = eqF d e := by cases h <;> cases g <;> rfl
theorem dq_allFlat {H : Hp} : ∀ {vs : List V} {ds : List PyData}, DqAll H vs ds → vs.all flatV = ds.all flatD
  | [], _, h => by cases h; rfl
  | v :: vs, _, h => by
    cases h with
    | cons h1 h2 => rw [List.all_cons, List.all_cons, dq_flat h1, dq_allFlat h2]
theorem dq_inD {H : Hp} {v : V} (h : Dq H v d) : ∀ {vs : List V} {ds : List PyData}, DqAll H vs ds → inV v vs = inD d ds
  | [], _, g => by cases g; rfl
  | u :: vs, _, g => by
    cases g with
    | cons g1 g2 =>
      have := dq_inD h g2
      unfold inV inD at *
      rw [List.any_cons, List.any_cons, this, dq_eqF g1 h]
theorem r2_inL {neg : Bool} (h1 : flatD d = true) (h2 : ds.all flatD = true) : R2V K (rIn K neg) (.dat d) (Ls ds) (Bb (if neg then !inD d ds else inD d ds)) μ := r2v_pure fun w H v u m a b => by
  cases b with
  | lst hb hd => exact ⟨_, Dq.bl _, fun Q q => ⟨_, _, rfl, .inl (SqL.of (dl_some hb).2), by rw [dq_flat a, h1], by rw [dq_allFlat hd, h2], by rw [dq_inD a hd]; exact q⟩⟩
theorem r2_inT {neg : Bool} (h1 : flatD d = true) (h2 : ds.all flatD = true) : R2V K (rIn K neg) (.dat d) (Tp ds) (Bb (if neg then !inD d ds else inD d ds)) μ := r2v_pure fun w H v u m a b => by
  obtain ⟨a0_, vs0_, rfl, hb, hd⟩ := Dq.tupE m.cst b
  exact ⟨_, Dq.bl _, fun Q q => ⟨_, _, rfl, .inr (hb _ dl_same), by rw [dq_flat a, h1], by rw [dq_allFlat hd, h2], by rw [dq_inD a hd]; exact q⟩⟩
theorem r2_inC {neg : Bool} {n : Nat} (hn : μ[n]? = some ds) (h1 : flatD d = true) (h2 : ds.all flatD = true) : R2V K (rIn K neg) (.dat d) (.ptr n) (Bb (if neg then !inD d ds else inD d ds)) μ := r2v_pure fun w H v u m a b => by
  obtain ⟨p, hp, rfl⟩ := b
  obtain ⟨vs, hb, hd⟩ := m.cell n p ds hp hn
  exact ⟨_, Dq.bl _, fun Q q => ⟨_, _, rfl, .inl (SqL.of hb), by rw [dq_flat a, h1], by rw [dq_allFlat hd, h2], by rw [dq_inD a hd]; exact q⟩⟩
/-! ### an item -/
theorem dq_at {H : Hp} {vs : List V} {ds : List PyData} (h : DqAll H vs ds) {i : Int} {d : PyData} (e : atI ds i = some d) : ∃ v, atI vs i = some v ∧ Dq H v d := by
  unfold atI at *
  rw [dqAll_len h]
  cases q : ixN ds.length i with
  | none => rw [q] at e; cases e
  | some j =>
    rw [q] at e
    exact dqAll_get h e
theorem r2_ixT (h : atI ds i = some d) : R2V K (rIxT K) (Tp ds) (Ii i) (.dat d) μ := r2v_pure fun w H v u m a b => by
  obtain ⟨a0_, vs0_, rfl, ha, hd⟩ := Dq.tupE m.cst a
  cases b
  obtain ⟨x, hx, dx⟩ := dq_at hd h
  exact ⟨x, dx, fun Q q => ⟨_, _, i, x, rfl, rfl, ha _ dl_same, hx, q⟩⟩
theorem r2_ixL (h : atI ds i = some d) : R2V K (rIxL K) (Ls ds) (Ii i) (.dat d) μ := r2v_pure fun w H v u m a b => by
  cases a with
  | lst ha hd =>
    cases b
    obtain ⟨x, hx, dx⟩ := dq_at hd h
    exact ⟨x, dx, fun Q q => ⟨_, _, i, x, rfl, rfl, SqL.of (dl_some ha).2, hx, q⟩⟩
theorem r2_ixC {n : Nat} (hn : μ[n]? = some ds) (h : atI ds i = some d) : R2V K (rIxL K) (.ptr n) (Ii i) (.dat d) μ := r2v_pure fun w H v u m a b => by
  obtain ⟨p, hp, rfl⟩ := a
  cases b
  obtain ⟨vs, hb, hd⟩ := m.cell n p ds hp hn
  obtain ⟨x, hx, dx⟩ := dq_at hd h
  exact ⟨x, dx, fun Q q => ⟨_, _, i, x, rfl, rfl, SqL.of hb, hx, q⟩⟩
theorem r2_ixS {c : Nat} (hl : s.length ≤ sizeLine) (h : atI s.cps.toList i = some c) : R2V K rIxS (Ss s) (Ii i) (Ss ⟨#[c]⟩) μ := r2v_pure fun w H v u m a b => by
  cases a
  cases b
  exact ⟨_, Dq.str _, fun Q q => ⟨s, i, c, rfl, rfl, hl, h, q⟩⟩
theorem r2_inSign {c : Nat} : R2V K (fun x y H Q => ∃ (c : Nat) (z : Str), x = V.str ⟨#[c]⟩ ∧ y = V.str z ∧ Q (.bl (decide (c ∈ z.cps.toList))) H) (Ss ⟨#[c]⟩) (Ss t) (Bb (decide (c ∈ t.cps.toList))) μ := r2v_pure fun w H v u m a b => by
  cases a
  cases b
  exact ⟨_, Dq.bl _, fun Q q => ⟨c, t, rfl, rfl, q⟩⟩
end

section
variable {X : Cx} {ρ : REnv} {μ μ1 μ2 μ3 : Sto} {x y z r : Ent} {a b c e : Expr} {es : List Expr} {pos p2 p : Pos} {rs : List Ent} {ds : List PyData} {d : PyData} {i j : Int} {s t n : Str}
theorem EV.ix {q : R2} (hr : IxR X q) (ha : EV X a ρ μ x μ1) (hb : EV X b ρ μ1 y μ2) (h : R2V X.K q x y z μ2) (hs : PlainIx b := by exact fun _ _ => rfl) : EV X (.Subscript a b pos) ρ μ z μ2 := by
  intro w σ H m s Q q
  refine ⟨_, pe_ix hr (p_ex (e := a)) (p_ex (e := b)) hs, ?_⟩
  refine ha w σ H m s _ fun v H1 m1 f1 h1 => ?_
  refine hb w σ H1 m1 (s.fr f1) _ fun u H2 m2 f2 h2 => ?_
  exact h w H2 v u m2 (h1.fr f2) h2 Q fun t H3 m3 f3 h3 => q t H3 m3 ((f1.trans f2).trans f3) h3
/-- the tests by name -/
theorem EV.tup {k} (ha : AV X es ρ μ (dats ds) μ1) (hl : ds.length ≤ 1000 := by exact Nat.le_of_ble_eq_true rfl) : EV X (.Tuple es k pos) ρ μ (Tp ds) μ1 := by
  intro w σ H m s Q q
  refine ⟨_, pe_tup (p_ax (e := es)), ?_⟩
  refine ha w σ H m s _ fun vs H1 m1 f1 h1 => ?_
  have hd := h1.dats
  exact ⟨by rw [dqAll_len hd]; exact Nat.le_of_lt (small1000 hl), new_tup m1 hd fun v H2 m2 f2 h2 => q v H2 m2 (f1.trans f2) h2⟩
theorem EV.lst (ha : AV X es ρ μ (dats ds) μ1) (hl : ds.length ≤ 1000 := by exact Nat.le_of_ble_eq_true rfl) : EV X (.List es pos) ρ μ (Ls ds) μ1 := by
  intro w σ H m s Q q
  refine ⟨_, pe_lst (p_ax (e := es)), ?_⟩
  refine ha w σ H m s _ fun vs H1 m1 f1 h1 => ?_
  have hd := h1.dats
  exact ⟨by rw [dqAll_len hd]; exact Nat.le_of_lt (small1000 hl), new_lst m1 hd fun v H2 m2 f2 h2 => q v H2 m2 (f1.trans f2) h2⟩
/-- a new list of the code's own -/
theorem EVF.lst (ha : AV X es ρ μ (dats ds) μ1) (hl : ds.length ≤ 1000 := by exact Nat.le_of_ble_eq_true rfl) : EVF X (.List es pos) ρ μ ds μ1 := by
  intro w σ H m s Q q
  refine ⟨_, pe_lst (p_ax (e := es)), ?_⟩
  refine ha w σ H m s _ fun vs H1 m1 f1 h1 => ?_
  have hd := h1.dats
  refine ⟨by rw [dqAll_len hd]; exact Nat.le_of_lt (small1000 hl), fun p hp => ?_⟩
  have hp0 : Nw H p := Nw.back f1 (Nw.of hp) (m1.fresh hp)
  exact q p _ vs (m1.keep hp) (f1.trans (Fr.of_same (Same.new hp))) hp0 upd_same (dqAll_mono (keep_out (K := X.K) hp (Fr.of_same (Same.new hp)) ⟨_, upd_same⟩) _ _ hd)

/-! ### calls -/
def SpV (K : PySem.W.Frag) (ps : List Str) (C : List Ent → Sto → Ent → Sto → Prop) : Sp := fun vs H Q _ =>
  ∃ w μ rs r μ', Mem K H w μ ∧ Vas K H w vs rs ∧ rs.length = ps.length ∧ C rs μ r μ' ∧ ∀ v H', Mem K H' w μ' → Fr w.α H H' → Val K H' w v r → Q v H'
structure Cal (P : Program) (w : World) (K : PySem.W.Frag) (mg : Str → Option Value) (base : Heap) (n : Str) (k : Nat) (ps : List Str) (C : List Ent → Sto → Ent → Sto → Prop) : Prop where
  ex : ∃ f fd, FnOk P w K mg base CX0 k f fd ps (SpV K ps C) ∧ mg n = some (.ref f) ∧ PySem.W.keepIn K (.ref f) = true ∧ Binds K fd ps []
theorem EV.call {k : Nat} {ps : List Str} {C : List Ent → Sto → Ent → Sto → Prop} (F : Cal X.prog X.w X.K X.mg X.base n k ps C) (hr : Room k X.A) (ha : AV X (e :: es) ρ μ rs μ1) (hC : C rs μ1 r μ2) (hl : rs.length = ps.length := by rfl)
    (hg : Gl X n := by rfl) (hdb : (n == ("__debug__" : Str)) = false := by decide) (he : starEach (e :: es) X.env = (false, eval e X.env) :: starEach es X.env := by rfl) (hpl : (backTo pos (starEach es X.env)).any (·.1) = false := by rfl) :
    EV X (.Call (.Name n p) (e :: es) [] pos) ρ μ r μ2 := by
  intro w σ H m s Q q
  obtain ⟨f, fd, G, hm, hk, hb⟩ := F.ex
  refine ⟨_, pe_call (E := E0) G hr hg hm hk hb .nil pass0 (p_ax (e := e :: es)) hdb he hpl, ?_⟩
  refine ha w σ H m s _ fun vs H1 m1 f1 h1 => ?_
  refine ⟨w, μ1, rs, r, μ2, m1, by rw [List.append_nil]; exact h1, hl, hC, fun v H' m2 f2 h2 => q v H' m2 (f1.trans f2) h2⟩
def CallV (K : PySem.W.Frag) (r : List V → Hp → VK → Prop) (rs : List Ent) (z : Ent) (μ : Sto) : Prop := ∀ w H vs, Mem K H w μ → Vas K H w vs rs → ∀ Q : VK, (∀ t H', Mem K H' w μ → Fr w.α H H' → Val K H' w t z → Q t H') → r vs H Q
theorem EV.callB {id : String} {q : List V → Hp → VK → Prop} (hc : CallR X (.builtin id) q) (hm : X.mg n = none) (hv : bootBuiltins n = some (.builtin id)) (ha : AV X (e :: es) ρ μ rs μ1) (h : CallV X.K q rs z μ1)
    (hg : Gl X n := by rfl) (hn : n ≠ "__name__" := by decide) (hdb : (n == ("__debug__" : Str)) = false := by decide) (he : starEach (e :: es) X.env = (false, eval e X.env) :: starEach es X.env := by rfl) (hpl : (backTo pos (starEach es X.env)).any (·.1) = false := by rfl) :
    EV X (.Call (.Name n p) (e :: es) [] pos) ρ μ z μ1 := by
  intro w σ H m s Q q
  refine ⟨_, pe_callB hc hg hm hv (p_ax (e := e :: es)) hn hdb he hpl, ?_⟩
  refine ha w σ H m s _ fun vs H1 m1 f1 h1 => ?_
  exact h w H1 vs m1 h1 Q fun t H' m2 f2 h2 => q t H' m2 (f1.trans f2) h2
theorem EV.callTy {id : String} {q : List V → Hp → VK → Prop} (hc : CallR X (.type id) q) (hm : X.mg n = none) (hv : bootBuiltins n = some (.type id)) (ha : AV X (e :: es) ρ μ rs μ1) (h : CallV X.K q rs z μ1)
    (hg : Gl X n := by rfl) (hn : n ≠ "__name__" := by decide) (hdb : (n == ("__debug__" : Str)) = false := by decide) (he : starEach (e :: es) X.env = (false, eval e X.env) :: starEach es X.env := by rfl) (hpl : (backTo pos (starEach es X.env)).any (·.1) = false := by rfl) :
    EV X (.Call (.Name n p) (e :: es) [] pos) ρ μ z μ1 := by
  intro w σ H m s Q q
  refine ⟨_, pe_callTy hc hg hm hv (p_ax (e := e :: es)) hn hdb he hpl, ?_⟩
  refine ha w σ H m s _ fun vs H1 m1 f1 h1 => ?_
  exact h w H1 vs m1 h1 Q fun t H' m2 f2 h2 => q t H' m2 (f1.trans f2) h2
end
section
variable {K : PySem.W.Frag} {μ : Sto} {i j : Int} {s t : Str} {ds es : List PyData} {d e : PyData} {b k : Bool} {x z : Ent}
theorem call1 {r : List V → Hp → VK → Prop} (h : ∀ w H v, Mem K H w μ → Val K H w v x → ∀ Q : VK, (∀ t H', Mem K H' w μ → Fr w.α H H' → Val K H' w t z → Q t H') → r [v] H Q) : CallV K r [x] z μ := fun w H vs m hv Q q => by
  obtain ⟨v, us, rfl, h1, h2⟩ := hv.inv
  rw [h2.inv0]
  exact h w H v m h1 Q q
theorem call2 {r : List V → Hp → VK → Prop} {y : Ent} (h : ∀ w H v u, Mem K H w μ → Val K H w v x → Val K H w u y → ∀ Q : VK, (∀ t H', Mem K H' w μ → Fr w.α H H' → Val K H' w t z → Q t H') → r [v, u] H Q) : CallV K r [x, y] z μ := fun w H vs m hv Q q => by
  obtain ⟨v, us, rfl, h1, h2⟩ := hv.inv
  obtain ⟨u, us, rfl, h3, h4⟩ := h2.inv
  rw [h4.inv0]
  exact h w H v u m h1 h3 Q q
theorem cv_lenS (h : s.length ≤ sizeLine) : CallV K (fun xs H Q => ∃ z, xs = [V.str z] ∧ z.length ≤ sizeLine ∧ Q (.int z.length) H) [Ss s] (Ii s.length) μ := call1 fun w H v m a Q q => by
  cases a
  exact ⟨s, rfl, h, q _ _ m .refl (Dq.int _)⟩
theorem cv_lenL : CallV K (fun xs H Q => ∃ p ys, xs = [V.ref p] ∧ (SqL K H p ys ∨ SqT K H p ys) ∧ Q (.int ys.length) H) [Ls ds] (Ii ds.length) μ := call1 fun w H v m a Q q => by
  cases a with
  | lst ha hd => exact ⟨_, _, rfl, .inl (SqL.of (dl_some ha).2), by rw [dqAll_len hd]; exact q _ _ m .refl (Dq.int _)⟩
theorem cv_lenT : CallV K (fun xs H Q => ∃ p ys, xs = [V.ref p] ∧ (SqL K H p ys ∨ SqT K H p ys) ∧ Q (.int ys.length) H) [Tp ds] (Ii ds.length) μ := call1 fun w H v m a Q q => by
  obtain ⟨a0_, vs0_, rfl, ha, hd⟩ := Dq.tupE m.cst a
  exact ⟨_, _, rfl, .inr (ha _ dl_same), by rw [dqAll_len hd]; exact q _ _ m .refl (Dq.int _)⟩
theorem cv_lenC {n : Nat} (hn : μ[n]? = some ds) : CallV K (fun xs H Q => ∃ p ys, xs = [V.ref p] ∧ (SqL K H p ys ∨ SqT K H p ys) ∧ Q (.int ys.length) H) [.ptr n] (Ii ds.length) μ := call1 fun w H v m a Q q => by
  obtain ⟨p, hp, rfl⟩ := a
  obtain ⟨vs, hb, hd⟩ := m.cell n p ds hp hn
  exact ⟨_, _, rfl, .inl (SqL.of hb), by rw [dqAll_len hd]; exact q _ _ m .refl (Dq.int _)⟩
theorem cv_lenScr {ns : List Int} : CallV K (fun xs H Q => ∃ p ys, xs = [V.ref p] ∧ (SqL K H p ys ∨ SqT K H p ys) ∧ Q (.int ys.length) H) [.scr ns] (Ii ns.length) μ := call1 fun w H v m a Q q => by
  obtain ⟨p, rfl, hs⟩ := a
  exact ⟨_, _, rfl, .inl (Same.seq dl_same hs), by rw [List.length_map]; exact q _ _ m .refl (Dq.int _)⟩
theorem cv_str (h : i.natAbs.log2 < 1920) : CallV K (fun xs H Q => ∃ i, xs = [V.int i] ∧ i.natAbs.log2 < 1920 ∧ Q (.str (toString i)) H) [Ii i] (Ss (toString i : String)) μ := call1 fun w H v m a Q q => by
  cases a
  exact ⟨i, rfl, h, q _ _ m .refl (Dq.str _)⟩
theorem cv_int1 : CallV K (fun xs H Q => (∃ i, xs = [V.int i] ∧ Q (.int i) H) ∨ ∃ k, xs = [.bl k] ∧ Q (.int (if k then 1 else 0)) H) [Ii i] (Ii i) μ := call1 fun w H v m a Q q => by
  cases a
  exact .inl ⟨i, rfl, q _ _ m .refl (Dq.int _)⟩
theorem cv_intS (h : PySem.intText? s = some i) (hl : s.length ≤ 640) : CallV K (fun xs H Q => ∃ a n, xs = [V.str a] ∧ PySem.intText? a = some n ∧ a.length ≤ 640 ∧ Q (.int n) H) [Ss s] (Ii i) μ := call1 fun w H v m a Q q => by
  cases a
  exact ⟨s, i, rfl, h, hl, q _ _ m .refl (Dq.int _)⟩
theorem cv_abs : CallV K (fun xs H Q => ∃ i, xs = [V.int i] ∧ Q (.int (if i < 0 then -i else i)) H) [Ii i] (Ii (if i < 0 then -i else i)) μ := call1 fun w H v m a Q q => by
  cases a
  exact ⟨i, rfl, q _ _ m .refl (Dq.int _)⟩
theorem cv_max : CallV K (fun xs H Q => ∃ i j, xs = [V.int i, .int j] ∧ Q (.int (if j > i then j else i)) H) [Ii i, Ii j] (Ii (if j > i then j else i)) μ := call2 fun w H v u m a b Q q => by
  cases a
  cases b
  exact ⟨i, j, rfl, q _ _ m .refl (Dq.int _)⟩
theorem cv_min : CallV K (fun xs H Q => ∃ i j, xs = [V.int i, .int j] ∧ Q (.int (if j < i then j else i)) H) [Ii i, Ii j] (Ii (if j < i then j else i)) μ := call2 fun w H v u m a b Q q => by
  cases a
  cases b
  exact ⟨i, j, rfl, q _ _ m .refl (Dq.int _)⟩
theorem cv_divmod (h : CDiv i j) : CallV K (fun xs H Q => ∃ i j, xs = [V.int i, .int j] ∧ CDiv i j ∧ ∀ p, H p = none → Q (.ref p) (upd H p (.tup [.int (i / j), .int (i % j)]))) [Ii i, Ii j] (Tp [.int (i / j), .int (i % j)]) μ := call2 fun w H v u m a b Q q => by
  cases a
  cases b
  exact ⟨i, j, rfl, h, new_tup m (.cons (.int _) (.cons (.int _) .nil)) q⟩
theorem dq_bools : ∀ {bs : List Bool} {H : Hp} {vs : List V}, DqAll H vs (bs.map PyData.bool) → vs = bs.map V.bl
  | [], H, _, h => by cases h; rfl
  | y :: ys, H, _, h => by
    cases h with
    | cons h1 h2 => cases h1; rw [dq_bools h2]; rfl
theorem cv_all {bs : List Bool} : CallV K (rAll K) [Ls (bs.map PyData.bool)] (Bb (bs.all id)) μ := call1 fun w H v m a Q q => by
  cases a with
  | lst ha hd =>
    rw [dq_bools hd] at ha
    exact ⟨_, bs, rfl, SqL.of (dl_some ha).2, q _ _ m .refl (Dq.bl _)⟩
theorem cv_any {bs : List Bool} : CallV K (rAny K) [Ls (bs.map PyData.bool)] (Bb (bs.any id)) μ := call1 fun w H v m a Q q => by
  cases a with
  | lst ha hd =>
    rw [dq_bools hd] at ha
    exact ⟨_, bs, rfl, SqL.of (dl_some ha).2, q _ _ m .refl (Dq.bl _)⟩
theorem cv_tupL : CallV K (fun xs H Q => ∃ p ys, xs = [V.ref p] ∧ ((SqL K H p ys ∧ ∀ l, H l = none → Q (.ref l) (upd H l (.tup ys))) ∨ (SqT K H p ys ∧ Q (.ref p) H))) [Ls ds] (Tp ds) μ := call1 fun w H v m a Q q => by
  cases a with
  | lst ha hd => exact ⟨_, _, rfl, .inl ⟨SqL.of (dl_some ha).2, new_tup m hd q⟩⟩
theorem cv_tupT : CallV K (fun xs H Q => ∃ p ys, xs = [V.ref p] ∧ ((SqL K H p ys ∧ ∀ l, H l = none → Q (.ref l) (upd H l (.tup ys))) ∨ (SqT K H p ys ∧ Q (.ref p) H))) [Tp ds] (Tp ds) μ := call1 fun w H v m a Q q => by
  have a' : Val K H w v (Tp ds) := a
  obtain ⟨a0_, vs0_, rfl, ha, hd⟩ := Dq.tupE m.cst a
  exact ⟨_, _, rfl, .inr ⟨ha _ dl_same, q _ _ m .refl a'⟩⟩
theorem cv_lstT : CallV K (fun xs H Q => ∃ p ys, xs = [V.ref p] ∧ (SqL K H p ys ∨ SqT K H p ys) ∧ ∀ l, H l = none → Q (.ref l) (upd H l (.lst ys))) [Tp ds] (Ls ds) μ := call1 fun w H v m a Q q => by
  obtain ⟨a0_, vs0_, rfl, ha, hd⟩ := Dq.tupE m.cst a
  exact ⟨_, _, rfl, .inr (ha _ dl_same), new_lst m hd q⟩
theorem cv_lstL : CallV K (fun xs H Q => ∃ p ys, xs = [V.ref p] ∧ (SqL K H p ys ∨ SqT K H p ys) ∧ ∀ l, H l = none → Q (.ref l) (upd H l (.lst ys))) [Ls ds] (Ls ds) μ := call1 fun w H v m a Q q => by
  cases a with
  | lst ha hd => exact ⟨_, _, rfl, .inl (SqL.of (dl_some ha).2), new_lst m hd q⟩
/-- its type's name -/
def tyD : PyData → String
  | .none => "NoneType"
  | .bool _ => "bool"
  | .int _ => "int"
  | .str _ => "str"
  | .list _ => "list"
  | .tuple _ => "tuple"
  | .dict _ => "dict"
def isObj : PyData → Bool
  | .dict ((.none, _) :: _) => true
  | _ => false
mutual
/-- no object in it -/
def nob : PyData → Bool
  | .list xs => nobAll xs
  | .tuple xs => nobAll xs
  | .dict kvs => !isObj (.dict kvs)
  | _ => true
def nobAll : List PyData → Bool
  | [] => true
  | x :: xs => nob x && nobAll xs
end
theorem nobAll_mem : ∀ {xs : List PyData}, nobAll xs = true → ∀ x ∈ xs, nob x = true
  | [], _, x, h => by simp at h
  | y :: ys, h, x, hx => by
    simp only [nobAll, Bool.and_eq_true] at h
    rcases List.mem_cons.mp hx with rfl | hx
    · exact h.1
    · exact nobAll_mem h.2 x hx
theorem nobAll_of : ∀ {xs : List PyData}, (∀ x ∈ xs, nob x = true) → nobAll xs = true
  | [], _ => rfl
  | y :: ys, h => by
    simp only [nobAll, Bool.and_eq_true]
    exact ⟨h y List.mem_cons_self, nobAll_of fun x hx => h x (List.mem_cons_of_mem _ hx)⟩
theorem nob_isObj {d : PyData} (h : nob d = true) : isObj d = false := by
  cases d with
  | dict kvs => simpa [nob] using h
  | _ => rfl
theorem nob_tup {xs : List PyData} (h : nob (.tuple xs) = true) : ∀ x ∈ xs, nob x = true := nobAll_mem (by simpa only [nob] using h)
theorem nob_lst {xs : List PyData} (h : nob (.list xs) = true) : ∀ x ∈ xs, nob x = true := nobAll_mem (by simpa only [nob] using h)
theorem tyD_dic {ks : List Key} {ds : List PyData} : tyD (.dict ((ks.map keyD).zip ds)) = "dict" := rfl
theorem dq_ty {H H' : Hp} {v : V} (ck : CkK K) (h : Dq H v d) (e : Same H H') (ho : isObj d = false) : TyX K H' v (.type (tyD d)) := by
  cases h with
  | ins hx hn hd => cases ho
  | dic ha hn hd => exact .base (.dK (e _ _ ha))
  | non => exact .base .non
  | bl b => exact .base (.bl b)
  | int i => exact .base (.int i)
  | str x => exact .base (.str x)
  | lst ha hd => exact .base (.lst (e _ _ ha))
  | tup ha hd => exact .base (.tup (e _ _ ha))
  | cst hk he =>
    obtain ⟨o, its, n, h1, h2, _⟩ := ck _ _ hk
    exact .kTuple h1 h2
end
section
variable {X : Cx} {ρ : REnv} {μ μ1 μ2 μ3 : Sto} {x y z r : Ent} {a b c e : Expr} {es : List Expr} {pos p2 p p3 : Pos} {rs : List Ent} {ds : List PyData} {d : PyData} {i j : Int} {s t n : Str}
/-- isinstance(a, T), T a built-in class -/
theorem EV.isi {T : String} {k : Bool} (ha : EV X a ρ μ (.dat d) μ1) (hob : isObj d = false) (hk : kitB (tyD d) T = some k) (hm : X.mg "isinstance" = none) (hmT : X.mg n = none) (hvT : bootBuiltins n = some (.type T)) (hg : Gl X "isinstance" := by rfl) (hgT : Gl X n := by rfl) (hn : n ≠ "__name__" := by decide)
    (hdb : (n == ("__debug__" : Str)) = false := by decide)
    (he : starEach [a, .Name n p2] X.env = (false, eval a X.env) :: starEach [.Name n p2] X.env := by rfl) (he2 : starEach [.Name n p2] X.env = (false, eval (.Name n p2) X.env) :: starEach [] X.env := by rfl) (hpl : (backTo pos (starEach [.Name n p2] X.env)).any (·.1) = false := by rfl) :
    EV X (.Call (.Name "isinstance" p) [a, .Name n p2] [] pos) ρ μ (Bb k) μ1 := by
  intro w σ H m s Q q
  refine ⟨_, pe_callB call_isi hg hm (by decide +kernel) (pa_cons (p_ex (e := a)) (pa_cons (pe_bltn (v := .ty T) hgT hmT hvT rfl hn hdb) pa_nil he2) he) (by decide) (by decide) he hpl, ?_⟩
  refine ha w σ H m s _ fun v H1 m1 f1 h1 => ?_
  exact ⟨v, .ty T, _, .type T, k, rfl, .ty T, dq_ty m1.cst h1 dl_same hob, kit_ty hk, q _ _ m1 f1 (Dq.bl k)⟩

/-! ### methods of texts -/
def MtV (K : PySem.W.Frag) (r : V → List V → Hp → VK → Prop) (x : Ent) (rs : List Ent) (z : Ent) (μ : Sto) : Prop := ∀ w H v vs, Mem K H w μ → Val K H w v x → Vas K H w vs rs → ∀ Q : VK, (∀ t H', Mem K H' w μ → Fr w.α H H' → Val K H' w t z → Q t H') → r v vs H Q
end
end J
/-! J3: what is walked, targets, comprehensions, slices, methods. -/
namespace J
open PySem PySem.Spec
open PyProof.Rows L2
variable [KC]

/-! ### what is walked -/
structure Wk (J : It) (G : Hp) (ds : List PyData) : Prop where
  go : ∀ H2, Same G H2 → ∀ (i : Nat) (d : PyData), ds[i]? = some d → J.go i H2 ∧ ∀ x H3, J.yld i H2 x H3 → Same H2 H3 ∧ ∀ T : List Addr, Same G (dl H2 T) → (∀ b ∈ T, ∃ o, H2 b = some o) → Dq (dl H3 T) x d
  stop : ∀ H2, Same G H2 → J.stop ds.length H2
def IV (X : Cx) (tg e : Expr) (ρ : REnv) (μ : Sto) (ds : List PyData) (μ' : Sto) : Prop :=
  ∀ w σ H, Mem X.K H w μ → Sl X.K H w σ ρ → ∀ R : It → Hp → Prop, (∀ J H', Mem X.K H' w μ' → Fr w.α H H' → Wk J (dl H' w.all) ds → R J H') → IX X tg e σ H R
section
variable {X : Cx} {ρ : REnv} {μ μ1 μ2 μ3 : Sto} {tg a b e : Expr} {ds : List PyData} {i j : Int} {s : Str} {pos p : Pos}
theorem wk_lst {K : PySem.W.Frag} {G : Hp} {c : Addr} {vs : List V} (h : G c = some (.lst vs)) (hd : DqAll G vs ds) : Wk (Itl K c) G ds := by
  refine ⟨fun H2 s i d e => ?_, fun H2 s => ⟨vs, SqL.of (s _ _ h), Nat.le_of_eq (dqAll_len hd)⟩⟩
  obtain ⟨v, hv, dv⟩ := dqAll_get hd e
  refine ⟨⟨vs, v, SqL.of (s _ _ h), hv⟩, fun x H3 y => ?_⟩
  obtain ⟨rfl, y⟩ := y
  have := y vs (SqL.of (s _ _ h))
  rw [hv] at this
  cases this
  exact ⟨Same.refl _, fun T st _ => dq_mono st _ _ dv⟩
theorem wk_tup {K : PySem.W.Frag} {G : Hp} {c : Addr} {vs : List V} (h : ∀ H2, Same G H2 → SqT K H2 c vs) (hd : DqAll G vs ds) : Wk (Itt K c) G ds := by
  refine ⟨fun H2 s i d e => ?_, fun H2 s => ⟨vs, h _ s, Nat.le_of_eq (dqAll_len hd)⟩⟩
  obtain ⟨v, hv, dv⟩ := dqAll_get hd e
  refine ⟨⟨vs, v, h _ s, hv⟩, fun x H3 y => ?_⟩
  obtain ⟨rfl, y⟩ := y
  have := y vs (h _ s)
  rw [hv] at this
  cases this
  exact ⟨Same.refl _, fun T st _ => dq_mono st _ _ dv⟩
theorem IV.lst (h : EV X e ρ μ (Ls ds) μ1) : IV X tg e ρ μ ds μ1 := by
  intro w σ H m s R q
  refine ⟨_, pi_list (p_ex (e := e)), ?_⟩
  refine h w σ H m s _ fun v H1 m1 f1 h1 => ?_
  cases h1 with
  | lst ha hd => exact ⟨_, rfl, ⟨_, SqL.of (dl_some ha).2⟩, q _ H1 m1 f1 (wk_lst ha hd)⟩
theorem IV.tup (h : EV X e ρ μ (Tp ds) μ1) : IV X tg e ρ μ ds μ1 := by
  intro w σ H m s R q
  refine ⟨_, pi_tup (p_ex (e := e)), ?_⟩
  refine h w σ H m s _ fun v H1 m1 f1 h1 => ?_
  obtain ⟨a0_, vs0_, rfl, ha, hd⟩ := Dq.tupE m1.cst h1
  exact ⟨_, rfl, ⟨_, ha _ dl_same⟩, q _ H1 m1 f1 (wk_tup ha hd)⟩
def strD (s : Str) : List PyData := s.cps.toList.map fun c => .str ⟨#[c]⟩
theorem IV.str (h : EV X e ρ μ (Ss s) μ1) : IV X tg e ρ μ (strD s) μ1 := by
  intro w σ H m s' R q
  refine ⟨_, pi_str (p_ex (e := e)), ?_⟩
  refine h w σ H m s' _ fun v H1 m1 f1 h1 => ?_
  cases h1
  refine ⟨s, rfl, q _ H1 m1 f1 ⟨fun H2 st i d e => ?_, fun H2 st => by show s.cps.size ≤ (strD s).length; simp [strD]⟩⟩
  have hi : i < s.cps.size := by
    have := (List.getElem?_eq_some_iff.mp e).1
    simpa [strD] using this
  refine ⟨hi, fun x H3 y => ?_⟩
  obtain ⟨rfl, c, hc, rfl⟩ := y
  refine ⟨Same.refl _, fun T st2 _ => ?_⟩
  have : d = .str ⟨#[c]⟩ := by
    have hc' : s.cps.toList[i]? = some c := by simpa using hc
    unfold strD at e
    rw [List.getElem?_map, hc'] at e
    simpa using e.symm
  rw [this]
  exact .str _
def rngD (lo : Int) (n : Nat) : List PyData := (List.range n).map fun (i : Nat) => PyData.int (lo + (i : Int))
theorem rngD_len {lo : Int} {n : Nat} : (rngD lo n).length = n := by simp [rngD]
theorem wk_rng {lo : Int} {n : Nat} {G : Hp} : Wk (Itr lo n) G (rngD lo n) := by
  refine ⟨fun H2 st i d e => ?_, fun H2 st => by show n ≤ (rngD lo n).length; rw [rngD_len]; exact Nat.le_refl n⟩
  have hi : i < n := by
    have := (List.getElem?_eq_some_iff.mp e).1
    rwa [rngD_len] at this
  refine ⟨hi, fun x H3 y => ?_⟩
  obtain ⟨rfl, rfl⟩ := y
  refine ⟨Same.refl _, fun T st2 _ => ?_⟩
  have : d = .int (lo + (i : Int)) := by
    unfold rngD at e
    rw [List.getElem?_map] at e
    simp [hi] at e
    exact e.symm
  rw [this]
  exact .int _
theorem IV.rng1 (h : EV X a ρ μ (Ii j) μ1) (h1 : -(2 ^ 62) ≤ j) (h2 : j < 2 ^ 62) (hm : X.mg "range" = none) (hg : Gl X "range" := by rfl) (hs : starEach [a] X.env = [(false, eval a X.env)] := by rfl) : IV X tg (.Call (.Name "range" p) [a] [] pos) ρ μ (rngD 0 j.toNat) μ1 := by
  intro w σ H m s R q
  refine ⟨_, pi_range1 hg hm (pa_cons (p_ex (e := a)) pa_nil hs) hs, ?_⟩
  refine h w σ H m s _ fun v H1 m1 f1 hv => ?_
  cases hv
  exact ⟨j, rfl, h1, h2, q _ H1 m1 f1 wk_rng⟩
theorem IV.rng2 (ha : EV X a ρ μ (Ii i) μ1) (hb : EV X b ρ μ1 (Ii j) μ2) (h : -(2 ^ 62) ≤ i ∧ i < 2 ^ 62 ∧ -(2 ^ 62) ≤ j ∧ j < 2 ^ 62) (hm : X.mg "range" = none) (hg : Gl X "range" := by rfl)
    (hs : starEach [a, b] X.env = [(false, eval a X.env), (false, eval b X.env)] := by rfl) (hs2 : starEach [b] X.env = [(false, eval b X.env)] := by rfl) : IV X tg (.Call (.Name "range" p) [a, b] [] pos) ρ μ (rngD i (j - i).toNat) μ2 := by
  intro w σ H m s R q
  refine ⟨_, pi_range2 hg hm (pa_cons (p_ex (e := a)) (pa_cons (p_ex (e := b)) pa_nil (by rw [hs2]; rfl)) (by rw [hs, hs2])) hs hs2, ?_⟩
  refine ha w σ H m s _ fun v H1 m1 f1 hv => ?_
  cases hv
  refine hb w σ H1 m1 (s.fr f1) _ fun v H2 m2 f2 hv => ?_
  cases hv
  exact ⟨i, j, rfl, h, q _ H2 m2 (f1.trans f2) wk_rng⟩
def enD : Nat → List PyData → List PyData
  | _, [] => []
  | n, d :: ds => .tuple [.int (n : Int), d] :: enD (n + 1) ds
theorem enD_get : ∀ {ds : List PyData} {n i : Nat} {d : PyData}, (enD n ds)[i]? = some d → ∃ c, ds[i]? = some c ∧ d = .tuple [.int ((n + i : Nat) : Int), c]
  | [], n, i, d, h => by simp [enD] at h
  | x :: xs, n, 0, d, h => by simp [enD] at h; exact ⟨x, rfl, by rw [← h]; rfl⟩
  | x :: xs, n, i + 1, d, h => by
    obtain ⟨c, h1, h2⟩ := enD_get (ds := xs) (n := n + 1) (i := i) (by simpa [enD] using h)
    exact ⟨c, by simpa using h1, by rw [h2]; congr 4; omega⟩
theorem enD_len : ∀ {ds : List PyData} {n : Nat}, (enD n ds).length = ds.length
  | [], _ => rfl
  | x :: xs, n => by simp [enD, enD_len (ds := xs)]
theorem IV.enum {elts : List Expr} {kk : Nat} {tpos : Pos} (h : EV X e ρ μ (Ls ds) μ1) (hm : X.mg "enumerate" = none) (hg : Gl X "enumerate" := by rfl) (hs : starEach [e] X.env = [(false, eval e X.env)] := by rfl) :
    IV X (.Tuple elts kk tpos) (.Call (.Name "enumerate" p) [e] [] pos) ρ μ (enD 0 ds) μ1 := by
  intro w σ H m s R q
  refine ⟨_, pi_enum hg hm (pa_cons (p_ex (e := e)) pa_nil hs) hs, ?_⟩
  refine h w σ H m s _ fun v H1 m1 f1 h1 => ?_
  cases h1 with
  | lst ha hd =>
    rename_i c vs
    refine ⟨_, _, rfl, SqL.of (dl_some ha).2, q _ H1 m1 f1 ⟨fun H2 st i d e => ?_, fun H2 st => ⟨vs, SqL.of (st _ _ ha), by rw [enD_len, dqAll_len hd]; exact Nat.le_refl _⟩⟩⟩
    obtain ⟨y, hy, rfl⟩ := enD_get e
    obtain ⟨u, hu, du⟩ := dqAll_get hd hy
    refine ⟨⟨vs, u, SqL.of (st _ _ ha), hu⟩, fun x H3 yy => ?_⟩
    obtain ⟨T0, x0, rfl, hT, rfl, hx⟩ := yy
    have e0 := hx vs (SqL.of (st _ _ ha))
    rw [hu] at e0
    cases e0
    refine ⟨Same.new hT, fun T st2 tr => ?_⟩
    have nT : T0 ∉ T := fun z => by
      obtain ⟨o, eo⟩ := tr T0 z
      rw [hT] at eo; cases eo
    have e1 : ((0 + i : Nat) : Int) = ((i : Nat) : Int) := by omega
    rw [e1]
    exact Dq.tup (dl_of nT upd_same) (.cons (.int _) (.cons (dq_mono (st2.trans (dl_new hT)) _ _ du) .nil))
end

/-! ### targets -/
def wipeE (ρ : REnv) : List Nat → REnv
  | [] => ρ
  | v :: vs => (wipeE ρ vs).set v none
theorem sl_wipe {K : PySem.W.Frag} {H : Hp} {w : Wd} {σ : L2.St} {ρ : REnv} (h : Sl K H w σ ρ) : ∀ vs : List Nat, Sl K H w (wipe σ vs) (wipeE ρ vs)
  | [] => h
  | v :: vs => by
    have g := sl_wipe h vs
    refine ⟨by simp [wipe, wipeE, g.len], fun i r e => ?_⟩
    unfold wipeE at e
    unfold wipe
    by_cases hi : v = i
    · subst hi
      rw [List.getElem?_set] at e
      by_cases hl : v < (wipeE ρ vs).length
      · simp [hl] at e
      · simp [hl] at e
    · rw [List.getElem?_set_ne hi] at e
      rw [List.getElem?_set_ne hi]
      exact g.at_ i r e
theorem wipe_set : ∀ (σ : L2.St) (vs : List Nat) (i : Nat) (x : Option V), i ∈ vs → wipe (σ.set i x) vs = wipe σ vs
  | σ, [], i, x, h => absurd h (by simp)
  | σ, v :: vs, i, x, h => by
    unfold wipe
    by_cases hv : i ∈ vs
    · rw [wipe_set σ vs i x hv]
    · have e : i = v := (List.mem_cons.mp h).resolve_right hv
      subst e
      have g : ∀ (us : List Nat) (σ : L2.St), i ∉ us → wipe (σ.set i x) us = (wipe σ us).set i x := by
        intro us
        induction us with
        | nil => intro σ _; rfl
        | cons u us ih =>
          intro σ hn
          unfold wipe
          rw [ih σ (fun z => hn (List.mem_cons_of_mem _ z)), List.set_comm _ _ (fun z => hn (by rw [z]; exact List.mem_cons_self))]
      rw [g vs σ hv, List.set_set]
def GV (X : Cx) (tg : Expr) (d : PyData) (ρ ρ' : REnv) (is : List Nat) : Prop :=
  ∀ w σ H μ v, Mem X.K H w μ → Sl X.K H w σ ρ → Val X.K H w v (.dat d) → ∀ Q : L2.St → Hp → Prop, (∀ σ', Sl X.K H w σ' ρ' → wipe σ' is = wipe σ is → Q σ' H) → GX X tg v σ H Q
def GsV (X : Cx) (tg : List Expr) (ds : List PyData) (ρ ρ' : REnv) (is : List Nat) : Prop :=
  ∀ w σ H μ vs, Mem X.K H w μ → Sl X.K H w σ ρ → DqAll (dl H w.all) vs ds → ∀ Q : L2.St → Hp → Prop, (∀ σ', Sl X.K H w σ' ρ' → wipe σ' is = wipe σ is → Q σ' H) → GsX X tg vs σ H Q
section
variable {X : Cx} {ρ ρ1 ρ2 : REnv} {d : PyData} {ds : List PyData} {n : Str} {pos : Pos} {tg : Expr} {tgs : List Expr} {is : List Nat}
theorem GV.name {i : Nat} (hN : X.N.Nodup) (hi : X.N[i]? = some n) (hx : Loc X.env.scope n) (hm : i ∈ is) (hf : X.fn n = true ∨ X.env.scope.names.lookup n = some .local := by first | exact .inl rfl | exact .inr rfl | assumption) : GV X (.Name n pos) d ρ (ρ.set i (some (.dat d))) is := by
  intro w σ H μ v m s h Q q
  exact ⟨_, pg_name hN hi hx hf, q _ (s.set h) (wipe_set σ is i _ hm)⟩
theorem GsV.nil : GsV X [] [] ρ ρ is := by
  intro w σ H μ vs m s h Q q
  cases h
  exact ⟨_, pgs_nil, rfl, q σ s rfl⟩
theorem GsV.cons (h1 : GV X tg d ρ ρ1 is) (h2 : GsV X tgs ds ρ1 ρ2 is) (ha : (assignEach (tg :: tgs) X.env).map (·.2) = assign tg X.env :: (assignEach tgs X.env).map (·.2) := by rfl) : GsV X (tg :: tgs) (d :: ds) ρ ρ2 is := by
  intro w σ H μ vs m s h Q q
  cases h with
  | cons a b =>
    refine ⟨_, pgs_cons (p_gx (e := tg)) (p_gsx (e := tgs)) ha, ?_⟩
    refine ⟨_, _, rfl, h1 w σ H μ _ m s a _ fun σ1 s1 e1 => ?_⟩
    exact h2 w σ1 H μ _ m s1 b Q fun σ2 s2 e2 => q σ2 s2 (e2.trans e1)
theorem GV.tup {k : Nat} (h : GsV X tgs ds ρ ρ1 is) (hc : X.calm = true := by rfl) (hn : (assignEach tgs X.env).length = ds.length := by rfl) (hst : (assignEach tgs X.env).findIdx? (·.1) = none := by rfl) : GV X (.Tuple tgs k pos) (.tuple ds) ρ ρ1 is := by
  intro w σ H μ v m s hv Q q
  obtain ⟨a0_, vs0_, rfl, ha, hd⟩ := Dq.tupE m.cst hv
  · refine ⟨_, pg_tup hc (p_gsx (e := tgs)) hn hst, ?_⟩
    exact ⟨_, _, rfl, ha _ dl_same, dqAll_len hd, h w σ H μ _ m s hd Q q⟩
end
end J
/-! J4: comprehensions, slices, methods of texts, f-strings. -/
namespace J
open PySem PySem.Spec
open PyProof.Rows L2
variable [KC]

section
variable {X : Cx} {ρ : REnv} {μ μ1 μ2 μ3 : Sto} {x y z r : Ent} {a b c e tg iter elt : Expr} {es : List Expr} {pos p2 p apos : Pos} {rs : List Ent} {ds out : List PyData} {d : PyData} {i j : Int} {s t n : Str} {k : Bool}
theorem EVF.ev (h : EVF X e ρ μ ds μ1) : EV X e ρ μ (Ls ds) μ1 := by
  intro w σ H m s Q q
  refine h w σ H m s Q fun p H' vs m' f hp e hd => ?_
  refine q _ H' m'.unkeep f ?_
  exact Dq.lst (dl_of (m.freshN hp) e) (dqAll_mono (dl_sub fun b hb => all_wk'.mpr (.inr hb)) _ _ hd)
theorem Sl.same2 {K : PySem.W.Frag} {H H' : Hp} {w : Wd} {D : Addr} {σ : L2.St} (h : Sl K H w σ ρ) (f : Same (dl H w.all) (dl H' (wk' w D).all)) : Sl K H' (wk' w D) σ ρ := ⟨h.len, fun i r e => by
  obtain ⟨v, a, b⟩ := h.at_ i r e
  refine ⟨v, a, ?_⟩
  cases r with
  | dat d => exact dq_mono f d v b
  | ptr k => exact b
  | obj C fs =>
    obtain ⟨x, dx, ws, e, hx, hn, hd⟩ := b
    exact ⟨x, dx, ws, e, f _ _ hx, hn, dqAll_mono f _ _ hd⟩
  | scr ns =>
    obtain ⟨a, e, hs⟩ := b
    exact ⟨a, e, Same.seq f hs⟩
  | raw u => exact b
  | exc a d fs =>
    obtain ⟨e, ws, hx, hn, hd⟩ := b
    exact ⟨e, ws, f _ _ hx, hn, dqAll_mono f _ _ hd⟩⟩
abbrev blkX (X : Cx) (scope : Scope) (s : Shared) (H : Hp) (C : Addr) (cl : List (Str × Addr)) (fp : List Addr) : Cx := X.blk s H scope (compEnvC scope cl C X.env) fp
def gC (X : Cx) (scope : Scope) (tg : Expr) : TG := fun v σ H Q => ∀ s H0 C cl fp, GX (blkX X scope s H0 C cl fp) tg v σ H Q
def ttC (X : Cx) (scope : Scope) (ifs : List Expr) : TT := fun σ H Q => (ifs = [] ∧ Q true H) ∨ ∃ c, ifs = [c] ∧ ∀ s H0 C cl fp, TX (blkX X scope s H0 C cl fp) c σ H Q
def teC (X : Cx) (scope : Scope) (elt : Expr) : TE := fun σ H Q => ∀ s H0 C cl fp, EX (blkX X scope s H0 C cl fp) elt σ H Q
theorem pg_C {scope : Scope} (s : Shared) (H : Hp) (C : Addr) (cl : List (Str × Addr)) (fp : List Addr) : PG (X.blk s H scope (compEnvC scope cl C X.env) fp) tg (gC X scope tg) :=
    ⟨fun pins s1 σ H1 v u Q I r h => (p_gx (X := blkX X scope s H C cl fp) (e := tg)).run pins s1 σ H1 v u Q I r (h s H C cl fp)⟩
theorem pts_C {scope : Scope} {ifs : List Expr} (s : Shared) (H : Hp) (C : Addr) (cl : List (Str × Addr)) (fp : List Addr) : PTs (X.blk s H scope (compEnvC scope cl C X.env) fp) ifs (ttC X scope ifs) :=
    ⟨fun pins s1 σ H1 Q I h => by
      rcases h with ⟨rfl, h⟩ | ⟨c, rfl, h⟩
      · exact pts_nil.run pins s1 σ H1 Q I h
      · exact (pts_one (p_tx (X := blkX X scope s H C cl fp) (e := c))).run pins s1 σ H1 Q I (h s H C cl fp)⟩
theorem pe_C {scope : Scope} (s : Shared) (H : Hp) (C : Addr) (cl : List (Str × Addr)) (fp : List Addr) : PE (X.blk s H scope (compEnvC scope cl C X.env) fp) elt (teC X scope elt) :=
    ⟨fun pins s1 σ H1 Q I h => (p_ex (X := blkX X scope s H C cl fp) (e := elt)).run pins s1 σ H1 Q I (h s H C cl fp)⟩
/-- what a comprehension comes to, as a reading -/
def LCV (X : Cx) (elt tg iter : Expr) (ifs : List Expr) (scope : Scope) (own : List (Str × Nat)) (ρ : REnv) (μ : Sto) (out : List PyData) (μ3 : Sto) : Prop :=
  ∀ w σ H, Mem X.K H w μ → Sl X.K H w σ ρ → ∀ Q : VK, (∀ p H' vs, Mem X.K H' (wk' w p) μ3 → Fr w.α H H' → Nw H p → H' p = some (.lst vs) → DqAll (dl H' (wk' w p).all) vs out → Q (.ref p) H') → tLc (IX X tg iter) (gC X scope tg) (ttC X scope ifs) (teC X scope elt) (own.map (·.2)) σ H Q
theorem LCV.mk {scope : Scope} {own : List (Str × Nat)} {ifs : List Expr} (hi : IV X tg iter ρ μ ds μ1) (Iv : Nat → List PyData → Sto → Prop) (h0 : Iv 0 [] μ1)
    (hs : ∀ i d acc μ, ds[i]? = some d → Iv i acc μ → ∃ ρ', (∀ s H C cl fp, GV (blkX X scope s H C cl fp) tg d (wipeE ρ (own.map (·.2))) ρ' (own.map (·.2))) ∧ ∃ (k : Bool) (μ2 : Sto), ((ifs = [] ∧ k = true ∧ μ2 = μ) ∨ ∃ c, ifs = [c] ∧ ∀ s H C cl fp, TV (blkX X scope s H C cl fp) c ρ' μ k μ2) ∧
      if k = true then ∃ y μ', (∀ s H C cl fp, EV (blkX X scope s H C cl fp) elt ρ' μ2 (.dat y) μ') ∧ Iv (i + 1) (acc ++ [y]) μ' else Iv (i + 1) acc μ2)
    (hd : ∀ acc μ, Iv ds.length acc μ → acc = out ∧ μ = μ3) (hl : ds.length ≤ 100000) : LCV X elt tg iter ifs scope own ρ μ out μ3 := by
  intro w σ H m s Q q
  refine hi w σ H m s _ fun J H1 m1 f1 wk => ?_
  intro D hD
  have hD0 : Nw H D := Nw.back f1 (Nw.of hD) (m1.fresh hD)
  -- between two turns
  refine ⟨fun i n H2 => n = ds.length - i ∧ i ≤ ds.length ∧ ∃ acc μa vs, Iv i acc μa ∧ acc.length ≤ i ∧ Mem X.K H2 (wk' w D) μa ∧ Fr w.α H1 (fun b => if b = D then none else H2 b) ∧ H2 D = some (.lst vs) ∧ DqAll (dl H2 (wk' w D).all) vs acc, ⟨ds.length, by simp, Nat.zero_le _, [], μ1, [], h0, by simp, m1.keep hD, fun b o e hb _ => ?_, upd_same, .nil⟩, ?_⟩
  · have : b ≠ D := ne_of_none e hD
    simp [this, upd_ne this, e]
  rintro i n H2 ⟨rfl, hi', acc, μa, vs, iv, hla, m2, f2, e2, hd2⟩
  have fr2 : ∀ b o, H1 b = some o → b ∉ w.α → Nt o → H2 b = some o := fun b o e hb nt => by
    have : (if b = D then none else H2 b) = some o := f2 b o e hb nt
    by_cases z : b = D
    · rw [if_pos z] at this; cases this
    · rwa [if_neg z] at this
  have g12 : Same (dl H1 w.all) (dl H2 (wk' w D).all) := keep_out (K := X.K) hD fr2 ⟨_, e2⟩
  have g12' : Same (dl H1 w.all) H2 := g12.trans dl_same
  by_cases hlt : i < ds.length
  · obtain ⟨d, hdi⟩ : ∃ d, ds[i]? = some d := ⟨ds[i], by simp [hlt]⟩
    obtain ⟨go, yl⟩ := wk.go H2 g12' i d hdi
    refine .inr ⟨go, fun H' => ∃ acc μa vs, Iv (i + 1) acc μa ∧ acc.length ≤ i + 1 ∧ Mem X.K H' (wk' w D) μa ∧ Fr w.α H1 (fun b => if b = D then none else H' b) ∧ H' D = some (.lst vs) ∧ DqAll (dl H' (wk' w D).all) vs acc, fun H' h => ⟨ds.length - (i + 1), by omega, rfl, hlt, h⟩, fun x H3 y3 => ?_⟩
    obtain ⟨s23, dx⟩ := yl x H3 y3
    have dx3 : Dq (dl H3 (wk' w D).all) x d := dx _ g12 fun b hb => (all_wk'.mp hb).elim (fun z => z ▸ ⟨_, e2⟩) fun hb => (List.mem_append.mp hb).elim (fun z => (m2.there z).elim fun vs e => ⟨_, e⟩) fun z => m2.ex1 (List.mem_cons_of_mem _ z)
    have m3 := m2.same s23
    have f23 : Fr (wk' w D).α H2 H3 := Fr.of_same s23
    have sl3 : Sl X.K H3 (wk' w D) (wipe σ (own.map (·.2))) (wipeE ρ (own.map (·.2))) := (sl_wipe ((s.fr f1).same2 g12) _).fr f23
    obtain ⟨ρ', hgv, kt, μt, htv, rest⟩ := hs i d acc μa hdi iv
    intro s' H0 C cl fp
    refine hgv s' H0 C cl fp _ _ H3 μa x m3 sl3 dx3 _ fun σ4 sl4 ew => ⟨ew.trans (by
      have : ∀ (vs : List Nat) (σ : L2.St), wipe (wipe σ vs) vs = wipe σ vs := by
        intro vs
        have aux : ∀ (us : List Nat) (σ : L2.St), (∀ u ∈ us, u ∈ vs) → wipe (wipe σ us) vs = wipe σ vs := by
          intro us
          induction us with
          | nil => intro σ _; rfl
          | cons u us ih =>
            intro σ hu
            show wipe ((wipe σ us).set u none) vs = wipe σ vs
            rw [wipe_set _ _ _ _ (hu u List.mem_cons_self)]
            exact ih σ fun z hz => hu z (List.mem_cons_of_mem _ hz)
        exact fun σ => aux vs σ fun u h => h
      exact this _ σ), ?_⟩
    -- behind the target
    have fin : ∀ (k : Bool) (H5 : Hp), Mem X.K H5 (wk' w D) μt → Fr w.α H3 H5 → k = kt → (if k = true then (∀ s H0 C cl fp, EX (blkX X scope s H0 C cl fp) elt σ4 H5 fun y H4 => ∃ acc, H4 D = some (.lst acc) ∧ acc.length < sizeLine ∧ ∃ acc' μa vs, Iv (i + 1) acc' μa ∧ acc'.length ≤ i + 1 ∧ Mem X.K (upd H4 D (.lst (acc ++ [y]))) (wk' w D) μa ∧ Fr w.α H1 (fun b => if b = D then none else (upd H4 D (.lst (acc ++ [y]))) b) ∧ (upd H4 D (.lst (acc ++ [y]))) D = some (.lst vs) ∧ DqAll (dl (upd H4 D (.lst (acc ++ [y]))) (wk' w D).all) vs acc')
        else ∃ acc μa vs, Iv (i + 1) acc μa ∧ acc.length ≤ i + 1 ∧ Mem X.K H5 (wk' w D) μa ∧ Fr w.α H1 (fun b => if b = D then none else H5 b) ∧ H5 D = some (.lst vs) ∧ DqAll (dl H5 (wk' w D).all) vs acc) := by
      intro k H5 m5 f35 ek
      subst ek
      have hDa : D ∉ w.α := m2.out D List.mem_cons_self
      have e5 : H5 D = some (.lst vs) := f35 D _ (s23 _ _ e2) hDa (fun q z => by cases z)
      have g25 : Same (dl H2 (wk' w D).all) (dl H5 (wk' w D).all) := Fr.all (w := wk' w D) (f23.trans f35)
      cases k with
      | false =>
        refine iteF ?_
        refine ⟨acc, μt, vs, by simpa using rest, Nat.le_succ_of_le hla, m5, fun b o e hb nt => ?_, e5, dqAll_mono g25 _ _ hd2⟩
        have nb : b ≠ D := ne_of_none e hD
        simp only [nb, if_false]
        exact (f23.trans f35) b o (fr2 b o e hb nt) hb nt
      | true =>
        refine iteT ?_
        intro s' H0 C cl fp
        obtain ⟨y, μ', hev, ivn⟩ := (by simpa using rest : ∃ y μ', (∀ s H C cl fp, EV (blkX X scope s H C cl fp) elt ρ' μt (.dat y) μ') ∧ Iv (i + 1) (acc ++ [y]) μ')
        refine hev s' H0 C cl fp (wk' w D) σ4 H5 m5 (sl4.fr f35) _ fun v H6 m6 f56 hv => ?_
        have e6 : H6 D = some (.lst vs) := f56 D _ e5 hDa (fun q z => by cases z)
        have g56 : Same (dl H5 (wk' w D).all) (dl H6 (wk' w D).all) := Fr.all (w := wk' w D) f56
        refine ⟨vs, e6, ?_, acc ++ [y], μ', vs ++ [v], ivn, by simp; exact hla, m6.outs, fun b o e hb nt => ?_, upd_same, dqAll_append (dqAll_mono ((g25.trans g56).trans same_outs) _ _ hd2) (.cons (dq_mono same_outs _ _ hv) .nil)⟩
        · rw [dqAll_len hd2]
          exact Nat.lt_of_le_of_lt (Nat.le_trans hla (Nat.le_of_lt (Nat.lt_of_lt_of_le hlt hl))) (by decide)
        · have nb : b ≠ D := ne_of_none e hD
          simp only [nb, if_false, upd_ne nb]
          exact ((f23.trans f35).trans f56) b o (fr2 b o e hb nt) hb nt
    rcases htv with ⟨hi0, rfl, rfl⟩ | ⟨c, hi1, htv⟩
    · exact .inl ⟨hi0, fin true H3 m3 Fr.refl rfl⟩
    · exact .inr ⟨c, hi1, fun s' H0 C cl fp => htv s' H0 C cl fp (wk' w D) σ4 H3 m3 sl4 _ fun H5 m5 f35 => fin kt H5 m5 f35 rfl⟩
  · have ei : i = ds.length := by omega
    subst ei
    obtain ⟨rfl, rfl⟩ := hd acc μa iv
    refine .inl ⟨wk.stop H2 g12', ?_⟩
    exact q D H2 vs m2 (f1.trans fr2) hD0 e2 hd2
theorem LCV.evf {scope : Scope} {own : List (Str × Nat)} {ifs : List Expr} (h : LCV X elt tg iter ifs scope own ρ μ out μ3) (hc : X.calm = true) (hN : X.N.Nodup) (ok : BlkOk X.N X.env.scope scope own) (hst : ∀ x, foldedSetIterable iter X.env x = pure x := by intro _; rfl) : EVF X (.ListComp elt [⟨tg, iter, ifs, 0⟩] scope pos) ρ μ out μ3 :=
  fun w σ H m s Q q => ⟨_, pe_lc hc hN (p_ix (tg := tg) (e := iter)) ok pg_C pts_C pe_C hst, h w σ H m s Q q⟩
/-- no test; the element by the item alone -/
theorem LCV.map {scope : Scope} {own : List (Str × Nat)} (f : PyData → PyData) (hi : IV X tg iter ρ μ ds μ1)
    (hs : ∀ d ∈ ds, ∃ ρ', (∀ s H C cl fp, GV (blkX X scope s H C cl fp) tg d (wipeE ρ (own.map (·.2))) ρ' (own.map (·.2))) ∧ (∀ s H C cl fp, EV (blkX X scope s H C cl fp) elt ρ' μ1 (.dat (f d)) μ1))
    (hl : ds.length ≤ 100000) : LCV X elt tg iter [] scope own ρ μ (ds.map f) μ1 := by
  refine LCV.mk hi (fun i acc μ => acc = (ds.take i).map f ∧ μ = μ1) ⟨by simp, rfl⟩ (fun i d acc μ e h => ?_) (fun acc μ h => ⟨by simpa using h.1, h.2⟩) hl
  obtain ⟨rfl, rfl⟩ := h
  obtain ⟨ρ', h1, h2⟩ := hs d (List.mem_iff_getElem?.mpr ⟨i, e⟩)
  refine ⟨ρ', h1, true, _, .inl ⟨rfl, rfl, rfl⟩, iteT ⟨f d, _, h2, ?_, rfl⟩⟩
  rw [List.take_succ, e]
  simp
end
end J
/-! J5: slices, methods of texts, f-strings, statements, defs. -/
namespace J
open PySem PySem.Spec
open PyProof.Rows L2
variable [KC]

section
variable {X : Cx} {ρ : REnv} {μ μ1 μ2 μ3 : Sto} {x y z r : Ent} {a b c e o tg iter elt : Expr} {es : List Expr} {pos p2 p apos : Pos} {rs : List Ent} {ds out : List PyData} {d : PyData} {i j : Int} {s t n : Str} {k : Bool}
theorem EV.un {op : UnaryOp} {q : V → Hp → VK → Prop} (ho : UnR X (unaryOp op) q) (ha : EV X a ρ μ x μ1) (h : ∀ w H v, Mem X.K H w μ1 → Val X.K H w v x → ∃ t, Val X.K H w t z ∧ ∀ Q : VK, Q t H → q v H Q) : EV X (.UnaryOp op a pos) ρ μ z μ1 := by
  intro w σ H m s Q qq
  refine ⟨_, pe_un ho (p_ex (e := a)), ?_⟩
  refine ha w σ H m s _ fun v H1 m1 f1 h1 => ?_
  obtain ⟨t, ht, hr⟩ := h w H1 v m1 h1
  exact hr _ (qq t H1 m1 f1 ht)
theorem EV.neg (ha : EV X a ρ μ (Ii i) μ1) : EV X (.UnaryOp .USub a pos) ρ μ (Ii (-i)) μ1 := ha.un un_neg fun w H v m h => by
  cases h
  exact ⟨_, Dq.int _, fun Q q => ⟨i, rfl, q⟩⟩
/-! ### slices -/
def PartV (X : Cx) (e : Option Expr) (ρ : REnv) (μ : Sto) (o : Option Int) (μ' : Sto) : Prop := ∀ w σ H, Mem X.K H w μ → Sl X.K H w σ ρ → ∀ Q : Option Int → Hp → Prop, (∀ H', Mem X.K H' w μ' → Fr w.α H H' → Q o H') → OX X e σ H Q
theorem PartV.none : PartV X none ρ μ none μ := fun w σ H m s Q q => ⟨_, po_none, q H m .refl⟩
theorem PartV.some (h : EV X e ρ μ (Ii i) μ1) : PartV X (some e) ρ μ (some i) μ1 := by
  intro w σ H m s Q q
  refine ⟨_, po_some (p_ex (e := e)), ?_⟩
  refine h w σ H m s _ fun v H1 m1 f1 h1 => ?_
  cases h1
  exact ⟨i, rfl, q H1 m1 f1⟩
def cutD (xs : List PyData) (lo hi : Option Int) : List PyData := (xs.drop (HT.sIx xs.length 0 lo)).take (HT.sIx xs.length xs.length hi - HT.sIx xs.length 0 lo)
theorem dq_cut {H : Hp} {vs : List V} (h : DqAll H vs ds) (lo hi : Option Int) : DqAll H (cutV vs lo hi) (cutD ds lo hi) := by
  unfold cutV cutD
  rw [dqAll_len h]
  exact dqAll_take _ (dqAll_drop _ h)
theorem sIx_le {n : Nat} {lo : Option Int} : HT.sIx n 0 lo = 0 ∧ True → True := fun _ => trivial
theorem EV.slT {lo hi : Option Expr} {l h : Option Int} (ha : EV X a ρ μ (Tp ds) μ1) (hl : PartV X lo ρ μ1 l μ2) (hh : PartV X hi ρ μ2 h μ3) : EV X (.Subscript a (.Slice lo hi none p2) pos) ρ μ (Tp (cutD ds l h)) μ3 := by
  intro w σ H m s Q q
  refine ⟨_, pe_slice sl_tupA (p_ex (e := a)) (p_ox (e := lo)) (p_ox (e := hi)), ?_⟩
  refine ha w σ H m s _ fun v H1 m1 f1 h1 => ?_
  refine hl w σ H1 m1 (s.fr f1) _ fun H2 m2 f2 => ?_
  refine hh w σ H2 m2 ((s.fr f1).fr f2) _ fun H3 m3 f3 => ?_
  have h3 := (h1.fr f2).fr f3
  have h3' := h3
  obtain ⟨a0_, vs0_, rfl, hs, hd⟩ := Dq.tupE m3.cst h3
  · refine ⟨_, _, rfl, hs _ dl_same, fun z => ?_, fun _ => new_tup m3 (dq_cut hd l h) fun v H4 m4 f4 h4 => q v H4 m4 (((f1.trans f2).trans f3).trans f4) h4⟩
    have e : cutD ds l h = ds := by
      unfold cutD
      rw [← dqAll_len hd, z.1, z.2]
      simp [dqAll_len hd]
    rw [e] at q
    exact q _ H3 m3 ((f1.trans f2).trans f3) h3'
theorem EV.slL {lo hi : Option Expr} {l h : Option Int} (ha : EV X a ρ μ (Ls ds) μ1) (hl : PartV X lo ρ μ1 l μ2) (hh : PartV X hi ρ μ2 h μ3) : EV X (.Subscript a (.Slice lo hi none p2) pos) ρ μ (Ls (cutD ds l h)) μ3 := by
  intro w σ H m s Q q
  refine ⟨_, pe_slice sl_list (p_ex (e := a)) (p_ox (e := lo)) (p_ox (e := hi)), ?_⟩
  refine ha w σ H m s _ fun v H1 m1 f1 h1 => ?_
  refine hl w σ H1 m1 (s.fr f1) _ fun H2 m2 f2 => ?_
  refine hh w σ H2 m2 ((s.fr f1).fr f2) _ fun H3 m3 f3 => ?_
  have h3 := (h1.fr f2).fr f3
  cases h3 with
  | lst hs hd => exact ⟨_, _, rfl, SqL.of (dl_some hs).2, new_lst m3 (dq_cut hd l h) fun v H4 m4 f4 h4 => q v H4 m4 (((f1.trans f2).trans f3).trans f4) h4⟩
theorem EV.slS {lo hi : Option Expr} {l h : Option Int} (ha : EV X a ρ μ (Ss t) μ1) (hl : PartV X lo ρ μ1 l μ2) (hh : PartV X hi ρ μ2 h μ3) (hz : t.length ≤ sizeLine) : EV X (.Subscript a (.Slice lo hi none p2) pos) ρ μ (Ss (cutS t l h)) μ3 := by
  intro w σ H m s Q q
  refine ⟨_, pe_slice sl_str (p_ex (e := a)) (p_ox (e := lo)) (p_ox (e := hi)), ?_⟩
  refine ha w σ H m s _ fun v H1 m1 f1 h1 => ?_
  refine hl w σ H1 m1 (s.fr f1) _ fun H2 m2 f2 => ?_
  refine hh w σ H2 m2 ((s.fr f1).fr f2) _ fun H3 m3 f3 => ?_
  cases h1
  exact ⟨t, rfl, hz, q _ H3 m3 ((f1.trans f2).trans f3) (Dq.str _)⟩
/-- the script's slice is a list of its own -/
theorem EV.slScr {lo hi : Option Expr} {l h : Option Int} {ns : List Int} (ha : EV X a ρ μ (.scr ns) μ1) (hl : PartV X lo ρ μ1 l μ2) (hh : PartV X hi ρ μ2 h μ3) : EV X (.Subscript a (.Slice lo hi none p2) pos) ρ μ (Ls (cutD (ns.map .int) l h)) μ3 := by
  intro w σ H m s Q q
  refine ⟨_, pe_slice sl_list (p_ex (e := a)) (p_ox (e := lo)) (p_ox (e := hi)), ?_⟩
  refine ha w σ H m s _ fun v H1 m1 f1 h1 => ?_
  refine hl w σ H1 m1 (s.fr f1) _ fun H2 m2 f2 => ?_
  refine hh w σ H2 m2 ((s.fr f1).fr f2) _ fun H3 m3 f3 => ?_
  obtain ⟨a0, rfl, hs⟩ := (h1.fr f2).fr f3
  have hd : ∀ (ns : List Int), DqAll (dl H3 w.all) (ns.map V.int) (ns.map .int) := by
    intro ns
    induction ns with
    | nil => exact .nil
    | cons n ns ih => exact .cons (.int n) ih
  exact ⟨_, _, rfl, Same.seq dl_same hs, new_lst m3 (dq_cut (hd ns) l h) fun v H4 m4 f4 h4 => q v H4 m4 (((f1.trans f2).trans f3).trans f4) h4⟩
/-! ### methods of texts -/
theorem EV.m1 {id : String} {q : V → List V → Hp → VK → Prop} (slot : Slot "str" n id) (ty : typeOf (.builtin id) = pure (.type "method_descriptor")) (rule : MtR X id q) (ho : EV X o ρ μ (Ss s) μ1) (he : EV X e ρ μ1 y μ2)
    (h : ∀ w H u, Mem X.K H w μ2 → Val X.K H w u y → ∀ Q : VK, (∀ t H', Mem X.K H' w μ2 → Fr w.α H H' → Val X.K H' w t z → Q t H') → q (.str s) [u] H Q)
    (hs : starEach [e] X.env = [(false, eval e X.env)] := by rfl) (hbase : attributeBase o n X.env (eval o X.env) = eval o X.env := by rfl) (hline : (apos.endLine == pos.line) = true := by rfl) : EV X (.Call (.Attribute o n apos) [e] [] pos) ρ μ z μ2 := by
  intro w σ H m s' Q qq
  refine ⟨_, pe_m1 slot ty rule (p_ex (e := o)) (p_ex (e := e)) hs hbase hline, ?_⟩
  refine ho w σ H m s' _ fun v H1 m1 f1 h1 => ?_
  cases h1
  refine ⟨⟨s, rfl⟩, ?_⟩
  refine he w σ H1 m1 (s'.fr f1) _ fun u H2 m2 f2 h2 => ?_
  exact h w H2 u m2 h2 Q fun t H3 m3 f3 h3 => qq t H3 m3 ((f1.trans f2).trans f3) h3
theorem EV.split (ho : EV X o ρ μ (Ss s) μ1) (he : EV X e ρ μ1 (Ss t) μ2) (h1 : (t.length == 0) = false) (h2 : s.length + 2 ≤ sizeLine)
    (hs : starEach [e] X.env = [(false, eval e X.env)] := by rfl) (hbase : attributeBase o "split" X.env (eval o X.env) = eval o X.env := by rfl) (hline : (apos.endLine == pos.line) = true := by rfl) : EV X (.Call (.Attribute o "split" apos) [e] [] pos) ρ μ (Ls ((Txt.split s t).map .str)) μ2 :=
  EV.m1 F.slot_str_split F.type_str_split mt_split ho he (fun w H u m hu Q q => by
    cases hu
    exact ⟨s, t, rfl, rfl, h1, h2, new_lst m (dqAll_strs _) q⟩) hs hbase hline
theorem EV.partition (ho : EV X o ρ μ (Ss s) μ1) (he : EV X e ρ μ1 (Ss t) μ2) (h1 : (t.length == 0) = false) (h2 : s.length ≤ sizeLine)
    (hs : starEach [e] X.env = [(false, eval e X.env)] := by rfl) (hbase : attributeBase o "partition" X.env (eval o X.env) = eval o X.env := by rfl) (hline : (apos.endLine == pos.line) = true := by rfl) :
    EV X (.Call (.Attribute o "partition" apos) [e] [] pos) ρ μ (Tp [.str (Txt.partition s t).1, .str (Txt.partition s t).2.1, .str (Txt.partition s t).2.2]) μ2 :=
  EV.m1 F.slot_str_partition F.type_str_partition mt_partition ho he (fun w H u m hu Q q => by
    cases hu
    exact ⟨s, t, rfl, rfl, h1, h2, new_tup m (.cons (.str _) (.cons (.str _) (.cons (.str _) .nil))) q⟩) hs hbase hline
theorem EV.join {ys : List Str} (ho : EV X o ρ μ (Ss s) μ1) (he : EV X e ρ μ1 (Ls (ys.map .str)) μ2) (h1 : (ys.map (·.length)).sum + ys.length * s.length ≤ 16777216)
    (hs : starEach [e] X.env = [(false, eval e X.env)] := by rfl) (hbase : attributeBase o "join" X.env (eval o X.env) = eval o X.env := by rfl) (hline : (apos.endLine == pos.line) = true := by rfl) : EV X (.Call (.Attribute o "join" apos) [e] [] pos) ρ μ (Ss (Txt.join s ys)) μ2 :=
  EV.m1 F.slot_str_join F.type_str_join mt_join ho he (fun w H u m hu Q q => by
    cases hu with
    | lst ha hd =>
      rw [dqAll_strs' hd] at ha
      exact ⟨s, _, ys, rfl, rfl, .inl (SqL.of (dl_some ha).2), h1, q _ _ m .refl (Dq.str _)⟩) hs hbase hline
theorem EV.joinC {ys : List Str} {n0 : Nat} (ho : EV X o ρ μ (Ss s) μ1) (he : EV X e ρ μ1 (.ptr n0) μ2) (hn : μ2[n0]? = some (ys.map .str)) (h1 : (ys.map (·.length)).sum + ys.length * s.length ≤ 16777216)
    (hs : starEach [e] X.env = [(false, eval e X.env)] := by rfl) (hbase : attributeBase o "join" X.env (eval o X.env) = eval o X.env := by rfl) (hline : (apos.endLine == pos.line) = true := by rfl) : EV X (.Call (.Attribute o "join" apos) [e] [] pos) ρ μ (Ss (Txt.join s ys)) μ2 :=
  EV.m1 F.slot_str_join F.type_str_join mt_join ho he (fun w H u m hu Q q => by
    obtain ⟨p, hp, rfl⟩ := hu
    obtain ⟨vs, hb, hd⟩ := m.cell n0 p _ hp hn
    rw [dqAll_strs' hd] at hb
    exact ⟨s, _, ys, rfl, rfl, .inl (SqL.of hb), h1, q _ _ m .refl (Dq.str _)⟩) hs hbase hline
/-! ### f-strings -/
theorem EV.fmtS (h : EV X e ρ μ (Ss s) μ1) (hz : s.length ≤ sizeLine) : EV X (.FormattedValue e (-1) none pos) ρ μ (Ss s) μ1 := by
  intro w σ H m s' Q q
  refine ⟨_, pe_fmt (p_ex (e := e)), ?_⟩
  refine h w σ H m s' _ fun v H1 m1 f1 h1 => ?_
  cases h1
  exact .inl ⟨s, rfl, hz, q _ H1 m1 f1 (Dq.str _)⟩
theorem EV.fmtI (h : EV X e ρ μ (Ii i) μ1) (hz : i.natAbs.log2 < 1920) : EV X (.FormattedValue e (-1) none pos) ρ μ (Ss (toString i : String)) μ1 := by
  intro w σ H m s' Q q
  refine ⟨_, pe_fmt (p_ex (e := e)), ?_⟩
  refine h w σ H m s' _ fun v H1 m1 f1 h1 => ?_
  cases h1
  exact .inr ⟨i, rfl, hz, q _ H1 m1 f1 (Dq.str _)⟩
theorem pj_ex : ∀ es : List Expr, PJ X es (es.map (EX X))
  | [] => .nil
  | e :: es => .cons p_ex (pj_ex es)
/-- the parts, the heap and the store as they are but for new objects -/
inductive JV (X : Cx) (ρ : REnv) (μ : Sto) : List Expr → List Str → Prop where
  | nil : JV X ρ μ [] []
  | cons {e : Expr} {s : Str} {es : List Expr} {ss : List Str} (h : EV X e ρ μ (Ss s) μ) (r : JV X ρ μ es ss) : JV X ρ μ (e :: es) (s :: ss)
def catS : Str → List Str → Str
  | acc, [] => acc
  | acc, s :: ss => catS (acc ++ s) ss
def fitS : Str → List Str → Prop
  | _, [] => True
  | acc, s :: ss => (acc ++ s).length ≤ sizeLine ∧ fitS (acc ++ s) ss
theorem jv_run (w : Wd) : ∀ {es : List Expr} {ss : List Str}, JV X ρ μ es ss → ∀ (acc : Str) (σ : L2.St) (H : Hp) (Q : Str → Hp → Prop), Mem X.K H w μ → Sl X.K H w σ ρ → fitS acc ss → (∀ H', Mem X.K H' w μ → Fr w.α H H' → Q (catS acc ss) H') → tJs (es.map (EX X)) acc σ H Q
  | [], _, .nil, acc, σ, H, Q, m, s, _, q => q H m .refl
  | e :: es, _, .cons h r, acc, σ, H, Q, m, s, f, q => by
    show EX X e σ H _
    refine h w σ H m s _ fun v H1 m1 f1 h1 => ?_
    cases h1
    exact ⟨_, rfl, f.1, jv_run w r _ σ H1 Q m1 (s.fr f1) f.2 fun H2 m2 f2 => q H2 m2 (f1.trans f2)⟩
theorem EV.joined {v1 v2 : Expr} {rest : List Expr} {ss : List Str} (h : JV X ρ μ (v1 :: v2 :: rest) ss) (hf : fitS Str.empty ss) : EV X (.JoinedStr (v1 :: v2 :: rest) pos) ρ μ (Ss (catS Str.empty ss)) μ := by
  intro w σ H m s Q q
  exact ⟨_, pe_joined (pj_ex _), jv_run w h Str.empty σ H _ m s hf fun H' m' f' => q _ H' m' f' (Dq.str _)⟩
end

/-! ### statements -/
inductive Out where
  | nx (ρ : REnv) (μ : Sto)
  | ret (r : Ent) (μ : Sto)
  | brk (ρ : REnv) (μ : Sto)
  | ct (ρ : REnv) (μ : Sto)
  | rse (ρ : REnv) (μ : Sto) (C : Addr) (fs : List (Str × PyData))
/-- the wish of a block that lets nothing out -/
abbrev W0 : WX := fun _ _ _ _ => False
/-- an exception's own dict, or none -/
def Xd (H : Hp) (w : Wd) (od : Option Addr) (fs : List (Str × PyData)) : Prop := match od with
  | none => fs = []
  | some d => ∃ ws : List (Str × V), H d = some (.xd ws) ∧ d ∉ w.all ∧ ws.map (·.1) = fs.map (·.1) ∧ DqAll (dl H w.all) (ws.map (·.2)) (fs.map (·.2))
abbrev Wd.add (w : Wd) (β : List Addr) : Wd := ⟨w.α ++ β, w.ξ⟩
abbrev Wd.cut (w : Wd) (n : Nat) : Wd := ⟨w.α.take n, w.ξ⟩
def Nx (X : Cx) (w : Wd) (H : Hp) (k : Wd → L2.St → Hp → Prop) (ρ : REnv) (μ : Sto) : Prop := ∀ β σ H', Mem X.K H' (w.add β) μ → Sl X.K H' (w.add β) σ ρ → Fr w.α H H' → (∀ b ∈ β, Nw H b) → k (w.add β) σ H'
def Fin (X : Cx) (W : WX) (n : Nat) (w : Wd) (H : Hp) (D : Ends) : Out → Prop
  | .nx ρ μ => Nx X w H (fun _ => D.nx) ρ μ
  | .brk ρ μ => Nx X w H (fun _ => D.bk) ρ μ
  | .ct ρ μ => Nx X w H (fun _ => D.ct) ρ μ
  | .ret r μ => ∀ v H', Mem X.K H' (w.cut n) μ → Fr w.α H H' → Val X.K H' (w.cut n) v r → D.rt v H'
  | .rse ρ μ C fs => ∀ od, Nx X w H (fun w' σ H' => Xd H' w' od fs → W (.ref C) od σ H') ρ μ
def ST (X : Cx) (W : WX) (n : Nat) (sts : List Stmt) (ρ : REnv) (μ : Sto) (P : Out → Prop) : Prop :=
  ∀ w σ H D, n ≤ w.α.length → Mem X.K H w μ → Sl X.K H w σ ρ → (∀ o, P o → Fin X W n w H D o) → SX X sts D σ H
section
variable {X : Cx} {W : WX} {n : Nat} {w : Wd} {H H' : Hp} {D : Ends} {o : Out} {β : List Addr} {k : Wd → L2.St → Hp → Prop} {ρ : REnv} {μ : Sto}
theorem wd_add_add {β β' : List Addr} : (w.add β).add β' = w.add (β ++ β') := by simp [Wd.add]
theorem Nx.grow (h : Nx X w H k ρ μ) (f : Fr w.α H H') (hb : ∀ b ∈ β, Nw H b) : Nx X (w.add β) H' k ρ μ := by
  intro β' σ H2 m s f2 hb2
  rw [wd_add_add] at m s ⊢
  refine h (β ++ β') σ H2 m s (fun b o e hn nt => ?_) fun b hb3 => ?_
  · refine f2 b o (f b o e hn nt) (fun z => ?_) nt
    rcases List.mem_append.mp z with z | z
    · exact hn z
    · exact hb b z o e nt
  · rcases List.mem_append.mp hb3 with z | z
    · exact hb b z
    · refine Nw.back f (hb2 b z) fun y => ?_
      have nd := m.nd
      have : b ∈ w.α ∧ b ∈ β ++ β' := ⟨y, List.mem_append_right _ z⟩
      exact (List.nodup_append.mp nd).2.2 b this.1 b this.2 rfl
theorem take_add {n : Nat} (hn : n ≤ w.α.length) : (w.add β).cut n = w.cut n := by
  show (⟨(w.α ++ β).take n, w.ξ⟩ : Wd) = ⟨w.α.take n, w.ξ⟩
  rw [List.take_append_of_le_length hn]
theorem Fin.grow (h : Fin X W n w H D o) (hn : n ≤ w.α.length) (f : Fr w.α H H') (hb : ∀ b ∈ β, Nw H b) : Fin X W n (w.add β) H' D o := by
  cases o with
  | nx ρ μ => exact Nx.grow (X := X) (k := fun _ => D.nx) h f hb
  | brk ρ μ => exact Nx.grow (X := X) (k := fun _ => D.bk) h f hb
  | ct ρ μ => exact Nx.grow (X := X) (k := fun _ => D.ct) h f hb
  | rse ρ μ C fs => exact fun od => Nx.grow (X := X) (h od) f hb
  | ret r μ =>
    intro v H2 m f2 hv
    rw [take_add hn] at m hv
    refine h v H2 m (fun b o e hn nt => ?_) hv
    refine f2 b o (f b o e hn nt) (fun z => ?_) nt
    rcases List.mem_append.mp z with z | z
    · exact hn z
    · exact hb b z o e nt
theorem add_nil : w.add [] = w := by simp [Wd.add]
theorem Fin.step (h : Fin X W n w H D o) (hn : n ≤ w.α.length) (f : Fr w.α H H') : Fin X W n w H' D o := by
  have := Fin.grow (β := []) h hn f fun b hb => absurd hb (by simp)
  rwa [add_nil] at this
end
/-- what is handed out of the def: a list of its own is data then -/
def frz (n : Nat) (μ : Sto) : Ent → Ent
  | .ptr k => if k < n then .ptr k else .dat (.list (μ.getD k []))
  | r => r
theorem val_frz {K : PySem.W.Frag} {H : Hp} {w : Wd} {μ : Sto} {v : V} {r : Ent} {n : Nat} (m : Mem K H w μ) (h : Val K H w v r) : Val K H (w.cut n) v (frz n μ r) := by
  have sub : Same (dl H w.all) (dl H (w.cut n).all) := dl_sub fun b hb => (List.mem_append.mp hb).elim (fun z => List.mem_append_left _ (List.mem_of_mem_take z)) fun z => List.mem_append_right _ z
  cases r with
  | dat d => exact dq_mono sub _ _ h
  | obj C fs =>
    obtain ⟨x, dx, ws, e, hx, hn, hd⟩ := h
    exact ⟨x, dx, ws, e, sub _ _ hx, hn, dqAll_mono sub _ _ hd⟩
  | scr ns =>
    obtain ⟨a, e, hs⟩ := h
    exact ⟨a, e, Same.seq sub hs⟩
  | raw u => exact h
  | exc a d fs =>
    obtain ⟨e, ws, hx, hn, hd⟩ := h
    exact ⟨e, ws, sub _ _ hx, hn, dqAll_mono sub _ _ hd⟩
  | ptr k =>
    obtain ⟨a, ha, rfl⟩ := h
    show Val K H (w.cut n) (V.ref a) (if k < n then Ent.ptr k else Ent.dat (PyData.list (List.getD μ k [])))
    by_cases hk : k < n
    · rw [if_pos hk]
      exact ⟨a, by rw [List.getElem?_take, if_pos hk]; exact ha, rfl⟩
    · rw [if_neg hk]
      have hl : k < μ.length := by rw [← m.len]; exact (List.getElem?_eq_some_iff.mp ha).1
      obtain ⟨vs, e, hd⟩ := m.cell k a μ[k] ha (by simp [hl])
      have e2 : μ.getD k [] = μ[k] := by simp [List.getD, hl]
      rw [e2]
      refine Dq.lst (dl_of (fun z => ?_) e) (dqAll_mono sub _ _ hd)
      rcases List.mem_append.mp z with z | z
      · obtain ⟨j, hj, ej⟩ := List.mem_take_iff_getElem.mp z
        obtain ⟨hkl, hke⟩ := List.getElem?_eq_some_iff.mp ha
        exact List.pairwise_iff_getElem.mp m.nd j k (by omega) hkl (by omega) (by rw [ej, hke])
      · exact m.out a z (List.mem_iff_getElem?.mpr ⟨k, ha⟩)
theorem Mem.cut {K : PySem.W.Frag} {H : Hp} {w : Wd} {μ : Sto} (m : Mem K H w μ) (n : Nat) : Mem K H (w.cut n) (μ.take n) := by
  have sub : Same (dl H w.all) (dl H (w.cut n).all) := dl_sub fun b hb => (List.mem_append.mp hb).elim (fun z => List.mem_append_left _ (List.mem_of_mem_take z)) fun z => List.mem_append_right _ z
  refine ⟨m.cst, m.nd.sublist (List.take_sublist _ _), by simp [m.len], fun k a xs h1 h2 => ?_, fun b hb z => m.out b hb (List.mem_of_mem_take z), m.ext, m.tab⟩
  rw [List.getElem?_take] at h1 h2
  by_cases hk : k < n
  · rw [if_pos hk] at h1 h2
    obtain ⟨vs, e, hd⟩ := m.cell k a xs h1 h2
    exact ⟨vs, e, dqAll_mono sub _ _ hd⟩
  · rw [if_neg hk] at h1
    cases h1
section
variable {X : Cx} {W : WX} {n : Nat} {ρ ρ1 : REnv} {μ μ1 μ2 : Sto} {P : Out → Prop} {e c tg iter elt : Expr} {rest body orelse : List Stmt} {pos p' p2 : Pos} {x : Str} {r : Ent} {d : PyData} {ds out : List PyData}
def thenP (X : Cx) (W : WX) (n : Nat) (rest : List Stmt) (P : Out → Prop) : Out → Prop
  | .nx ρ μ => ST X W n rest ρ μ P
  | o => P o
theorem ST.nil (h : P (.nx ρ μ)) : ST X W n [] ρ μ P := fun w σ H D hn m s q => ⟨_, pss_nil, by
  have := q _ h [] σ H (by rw [add_nil]; exact m) (by rw [add_nil]; exact s) .refl fun b hb => absurd hb (by simp)
  exact this⟩
theorem ST.set {i : Nat} (h : EV X e ρ μ r μ1) (hN : X.N.Nodup) (hi : X.N[i]? = some x) (hx : Loc X.env.scope x) (hr : ST X W n rest (ρ.set i (some r)) μ1 P) (hs : swapsWith e (some (.Name x p')) pos.line X.env = pure false := by rfl)
    (hf : X.fn x = true ∨ X.env.scope.names.lookup x = some .local := by first | exact .inl rfl | exact .inr rfl | assumption) : ST X W n (.Assign [.Name x p'] e pos :: rest) ρ μ P := by
  intro w σ H D hn m s q
  refine ⟨_, pss_cons (ps_set hN hi hx (p_ex (e := e)) hs hf) p_sx, ?_⟩
  refine h w σ H m s _ fun v H1 m1 f1 h1 => ?_
  exact hr w _ H1 D hn m1 ((s.fr f1).set h1) fun o ho => (q o ho).step hn f1
/-- name = a new list of the def's own, which may change -/
theorem new_cell {K : PySem.W.Frag} {H H1 : Hp} {w : Wd} {p : Addr} {vs : List V} {σ : L2.St} {i : Nat} (m : Mem K H w μ) (s : Sl K H w σ ρ) (m1 : Mem K H1 (wk' w p) μ1) (f1 : Fr w.α H H1) (hp : Nw H p) (e1 : H1 p = some (.lst vs)) (hd : DqAll (dl H1 (wk' w p).all) vs ds) :
    Mem K H1 (w.add [p]) (μ1 ++ [ds]) ∧ Sl K H1 (w.add [p]) (σ.set i (some (.ref p))) (ρ.set i (some (.ptr μ1.length))) := by
  have ha : p ∉ w.α := fun z => m.freshN hp (List.mem_append_left _ z)
  have all_eq : ∀ b, b ∈ (w.add [p]).all ↔ b ∈ (wk' w p).all := fun b => by
    rw [all_wk']
    simp only [Wd.all, List.mem_append, List.mem_cons, List.not_mem_nil, or_false]
    constructor
    · rintro ((h | h) | h)
      · exact .inr (.inl h)
      · exact .inl h
      · exact .inr (.inr h)
    · rintro (h | h | h)
      · exact .inl (.inr h)
      · exact .inl (.inl h)
      · exact .inr h
  have g : Same (dl H1 (wk' w p).all) (dl H1 (w.add [p]).all) := dl_sub fun b hb => (all_eq b).mp hb
  have len1 : w.α.length = μ1.length := m1.len
  have mm : Mem K H1 (w.add [p]) (μ1 ++ [ds]) := by
    refine ⟨m.cst, List.nodup_append.mpr ⟨m.nd, by simp, fun a h b h' => by simp at h'; subst h'; exact fun z => ha (z ▸ h)⟩, by simp [len1], fun k a xs h1 h2 => ?_, fun b hb z => ?_, fun b hb => m1.ext b (List.mem_cons_of_mem _ hb), m1.tab⟩
    · by_cases hk : k < w.α.length
      · have h1' : w.α[k]? = some a := by rwa [List.getElem?_append_left hk] at h1
        have h2' : μ1[k]? = some xs := by rwa [List.getElem?_append_left (by omega)] at h2
        obtain ⟨us, e, hd'⟩ := m1.cell k a xs h1' h2'
        exact ⟨us, e, dqAll_mono g _ _ hd'⟩
      · rw [List.getElem?_append_right (by omega)] at h1 h2
        rw [len1] at h1
        cases hj : k - μ1.length with
        | zero =>
          rw [hj] at h1 h2
          simp at h1 h2
          subst h1
          subst h2
          exact ⟨vs, e1, dqAll_mono g _ _ hd⟩
        | succ j =>
          rw [hj] at h1
          simp at h1
    · rcases List.mem_append.mp z with z | z
      · exact m.out b hb z
      · obtain ⟨o, eo, po⟩ := m.ext b hb
        have : b = p := by simpa using z
        exact hp o (this ▸ eo) po.1
  refine ⟨mm, ?_⟩
  have s1 : Sl K H1 (w.add [p]) σ ρ := by
    have g2 : Same (dl H w.all) (dl H1 (w.add [p]).all) := (keep_outN (K := K) hp f1 ⟨_, e1⟩).trans g
    refine ⟨s.len, fun i r e => ?_⟩
    obtain ⟨v, a, b⟩ := s.at_ i r e
    refine ⟨v, a, ?_⟩
    cases r with
    | dat d => exact dq_mono g2 d v b
    | ptr k =>
      obtain ⟨a0, h0, h1⟩ := b
      exact ⟨a0, by rw [List.getElem?_append_left (List.getElem?_eq_some_iff.mp h0).1]; exact h0, h1⟩
    | obj C fs =>
      obtain ⟨x, dx, ws, e, hx, hn, hd⟩ := b
      exact ⟨x, dx, ws, e, g2 _ _ hx, hn, dqAll_mono g2 _ _ hd⟩
    | scr ns =>
      obtain ⟨a, e, hs⟩ := b
      exact ⟨a, e, Same.seq g2 hs⟩
    | raw u => exact b
    | exc a d fs =>
      obtain ⟨e, ws, hx, hn, hd⟩ := b
      exact ⟨e, ws, g2 _ _ hx, hn, dqAll_mono g2 _ _ hd⟩
  refine s1.set ⟨p, ?_, rfl⟩
  rw [List.getElem?_append_right (by omega), len1]
  simp
/-- name = a new list of the def's own, which may change -/
theorem ST.cell {i : Nat} (h : EVF X e ρ μ ds μ1) (hN : X.N.Nodup) (hi : X.N[i]? = some x) (hx : Loc X.env.scope x) (hr : ST X W n rest (ρ.set i (some (.ptr μ1.length))) (μ1 ++ [ds]) P) (hs : swapsWith e (some (.Name x p')) pos.line X.env = pure false := by rfl)
    (hf : X.fn x = true ∨ X.env.scope.names.lookup x = some .local := by first | exact .inl rfl | exact .inr rfl | assumption) : ST X W n (.Assign [.Name x p'] e pos :: rest) ρ μ P := by
  intro w σ H D hn m s q
  refine ⟨_, pss_cons (ps_set hN hi hx (p_ex (e := e)) hs hf) p_sx, ?_⟩
  refine h w σ H m s _ fun p H1 vs m1 f1 hp e1 hd => ?_
  obtain ⟨mm, ss⟩ := new_cell (i := i) m s m1 f1 hp e1 hd
  exact hr (w.add [p]) _ H1 D (by simp; omega) mm ss fun o ho => Fin.grow (q o ho) hn f1 fun b hb => by
    have : b = p := by simpa using hb
    rw [this]; exact hp
/-- name = [..] -/
theorem ST.lc {i : Nat} {ifs : List Expr} {scope : Scope} {own : List (Str × Nat)} {lpos : Pos} (h : LCV X elt tg iter ifs scope own ρ μ out μ1) (hc : X.calm = true) (hN : X.N.Nodup) (hi : X.N[i]? = some x) (hx : X.env.scope.names.lookup x = some .local) (ok : BlkOk X.N X.env.scope scope own)
    (hr : ST X W n rest (ρ.set i (some (Ls out))) μ1 P) (hsw : swapsWith (.ListComp elt [⟨tg, iter, ifs, 0⟩] scope lpos) (some (.Name x p')) pos.line X.env = pure true) (hst : ∀ x, foldedSetIterable iter X.env x = pure x := by intro _; rfl) :
    ST X W n (.Assign [.Name x p'] (.ListComp elt [⟨tg, iter, ifs, 0⟩] scope lpos) pos :: rest) ρ μ P := by
  intro w σ H D hn m s q
  refine ⟨_, pss_cons (ps_setLc (i := i) hc hN hi hx hsw (p_ix (tg := tg) (e := iter)) ok pg_C pts_C pe_C hst) p_sx, ?_⟩
  show tLc _ _ _ _ _ σ H fun v H1 => SX X rest D (σ.set i (some v)) H1
  refine h w σ H m s _ fun p H1 vs m1 f1 hp e1 hd => ?_
  have hv : Val X.K H1 w (.ref p) (Ls out) := Dq.lst (dl_of (m.freshN hp) e1) (dqAll_mono (dl_sub fun b hb => all_wk'.mpr (.inr hb)) _ _ hd)
  exact hr w _ H1 D hn m1.unkeep ((s.fr f1).set hv) fun o ho => (q o ho).step hn f1
theorem ST.lcCell {i : Nat} {ifs : List Expr} {scope : Scope} {own : List (Str × Nat)} {lpos : Pos} (h : LCV X elt tg iter ifs scope own ρ μ out μ1) (hc : X.calm = true) (hN : X.N.Nodup) (hi : X.N[i]? = some x) (hx : X.env.scope.names.lookup x = some .local) (ok : BlkOk X.N X.env.scope scope own)
    (hr : ST X W n rest (ρ.set i (some (.ptr μ1.length))) (μ1 ++ [out]) P) (hsw : swapsWith (.ListComp elt [⟨tg, iter, ifs, 0⟩] scope lpos) (some (.Name x p')) pos.line X.env = pure true) (hst : ∀ x, foldedSetIterable iter X.env x = pure x := by intro _; rfl) :
    ST X W n (.Assign [.Name x p'] (.ListComp elt [⟨tg, iter, ifs, 0⟩] scope lpos) pos :: rest) ρ μ P := by
  intro w σ H D hn m s q
  refine ⟨_, pss_cons (ps_setLc (i := i) hc hN hi hx hsw (p_ix (tg := tg) (e := iter)) ok pg_C pts_C pe_C hst) p_sx, ?_⟩
  show tLc _ _ _ _ _ σ H fun v H1 => SX X rest D (σ.set i (some v)) H1
  refine h w σ H m s _ fun p H1 vs m1 f1 hp e1 hd => ?_
  obtain ⟨mm, ss⟩ := new_cell (i := i) m s m1 f1 hp e1 hd
  exact hr (w.add [p]) _ H1 D (by simp; omega) mm ss fun o ho => Fin.grow (q o ho) hn f1 fun b hb => by
    have : b = p := by simpa using hb
    rw [this]; exact hp
theorem ST.asg {is : List Nat} (h : EV X e ρ μ (.dat d) μ1) (hg : GV X tg d ρ ρ1 is) (hr : ST X W n rest ρ1 μ1 P) (hs : swapsWithSole [tg] e pos.line X.env = pure false := by rfl) (hw : swappedStores [tg] e X.env = pure none := by rfl)
    (h1 : (assignEach [tg] X.env).map (·.2) = [assign tg X.env] := by rfl) : ST X W n (.Assign [tg] e pos :: rest) ρ μ P := by
  intro w σ H D hn m s q
  refine ⟨_, pss_cons (ps_asg (p_ex (e := e)) (p_gx (e := tg)) hs hw h1) p_sx, ?_⟩
  refine h w σ H m s _ fun v H1 m1 f1 hv => ?_
  refine hg w σ H1 μ1 v m1 (s.fr f1) hv _ fun σ1 s1 _ => ?_
  exact hr w _ H1 D hn m1 s1 fun o ho => (q o ho).step hn f1
/-- a, b = x, y -/
theorem ST.par {i j : Nat} {x y : Str} {a b : Expr} {px py pt : Pos} {kt k2 pt2} {r1 r2 : Ent} (ha : AV X [a, b] ρ μ [r1, r2] μ1) (hN : X.N.Nodup) (hi : X.N[i]? = some x) (hj : X.N[j]? = some y) (hij : i ≠ j)
    (hx : X.env.scope.names.lookup x = some .local) (hy : X.env.scope.names.lookup y = some .local) (hr : ST X W n rest ((ρ.set i (some r1)).set j (some r2)) μ1 P)
    (hw : swappedStores [.Tuple [.Name x px, .Name y py] kt pt] (.Tuple [a, b] k2 pt2) X.env = pure (some [x, y])) (hc : X.calm = true := by rfl)
    (hs : swapsWithSole [.Tuple [.Name x px, .Name y py] kt pt] (.Tuple [a, b] k2 pt2) pos.line X.env = pure false := by rfl) : ST X W n (.Assign [.Tuple [.Name x px, .Name y py] kt pt] (.Tuple [a, b] k2 pt2) pos :: rest) ρ μ P := by
  intro w σ H D hn m s q
  refine ⟨_, pss_cons (ps_par hc hN hi hj hij hx hy (p_ax (e := [a, b])) hw hs) p_sx, ?_⟩
  refine ha w σ H m s _ fun vs H1 m1 f1 hv => ?_
  obtain ⟨v1, us, rfl, h1, h2⟩ := hv.inv
  obtain ⟨v2, us, rfl, h3, h4⟩ := h2.inv
  obtain rfl := h4.inv0
  exact ⟨v1, v2, rfl, hr w _ H1 D hn m1 (((s.fr f1).set h1).set h3) fun o ho => (q o ho).step hn f1⟩
theorem ST.expr (h : EV X e ρ μ r μ1) (hr : ST X W n rest ρ μ1 P) (hs : swapsWith e none pos.line X.env = pure false := by rfl) : ST X W n (.Expr e pos :: rest) ρ μ P := by
  intro w σ H D hn m s q
  refine ⟨_, pss_cons (ps_expr (p_ex (e := e)) hs) p_sx, ?_⟩
  refine h w σ H m s _ fun v H1 m1 f1 hv => ?_
  exact hr w σ H1 D hn m1 (s.fr f1) fun o ho => (q o ho).step hn f1
theorem ST.ret (h : EV X e ρ μ r μ1) (hP : P (.ret (frz n μ1 r) (μ1.take n))) : ST X W n (.Return (some e) pos :: rest) ρ μ P := by
  intro w σ H D hn m s q
  refine ⟨_, pss_cons (ps_ret (p_ex (e := e))) pss_never, ?_⟩
  refine h w σ H m s _ fun v H1 m1 f1 hv => ?_
  exact q _ hP v H1 (m1.cut n) f1 (val_frz m1 hv)
theorem ST.iff {k : Bool} (h : TV X c ρ μ k μ1) (h1 : k = true → ST X W n body ρ μ1 (thenP X W n rest P)) (h2 : k = false → ST X W n orelse ρ μ1 (thenP X W n rest P)) : ST X W n (.If c body orelse pos :: rest) ρ μ P := by
  intro w σ H D hn m s q
  refine ⟨_, pss_cons (ps_if (p_tx (e := c)) p_sx p_sx) p_sx, ?_⟩
  refine h w σ H m s _ fun H1 m1 f1 => ?_
  have fin : ∀ o, thenP X W n rest P o → Fin X W n w H1 { D with nx := SX X rest D } o := by
    intro o ho
    cases o with
    | nx ρ' μ' =>
      intro β σ' H2 m2 s2 f2 hb
      refine ho (w.add β) σ' H2 D (by simp; omega) m2 s2 fun o ho => ?_
      exact Fin.grow (β := β) ((q o ho).step hn f1) hn f2 hb
    | ret r μ' => exact (Fin.step (o := .ret r μ') (q _ ho) hn f1 : Fin X W n w H1 D (.ret r μ'))
    | brk ρ' μ' => exact (Fin.step (o := .brk ρ' μ') (q _ ho) hn f1 : Fin X W n w H1 D (.brk ρ' μ'))
    | ct ρ' μ' => exact (Fin.step (o := .ct ρ' μ') (q _ ho) hn f1 : Fin X W n w H1 D (.ct ρ' μ'))
    | rse ρ' μ' C fs => exact (Fin.step (o := .rse ρ' μ' C fs) (q _ ho) hn f1 : Fin X W n w H1 D (.rse ρ' μ' C fs))
  cases k with
  | true => exact iteT (h1 rfl w σ H1 _ hn m1 (s.fr f1) fin)
  | false => exact iteF (h2 rfl w σ H1 _ hn m1 (s.fr f1) fin)
/-- an if of which both ways go on alike -/
theorem ST.mono {P' : Out → Prop} {sts : List Stmt} (h : ST X W n sts ρ μ P) (i : ∀ o, P o → P' o) : ST X W n sts ρ μ P' := fun w σ H D hn m s q => h w σ H D hn m s fun o ho => q o (i o ho)
/-- for: an invariant by the turn -/
theorem ST.for_ {is : List Nat} (hi : IV X tg iter ρ μ ds μ1) (Iv : Nat → REnv → Sto → Prop) (h0 : Iv 0 ρ μ1)
    (hs : ∀ (i : Nat) (d : PyData) (ρ : REnv) (μ : Sto), ds[i]? = some d → Iv i ρ μ → ∃ ρ', GV X tg d ρ ρ' is ∧ ST X W n body ρ' μ fun
      | .nx ρ μ => Iv (i + 1) ρ μ
      | .ct ρ μ => Iv (i + 1) ρ μ
      | .brk ρ μ => thenP X W n rest P (.nx ρ μ)
      | .ret r μ => P (.ret r μ)
      | .rse ρ μ C fs => P (.rse ρ μ C fs))
    (hd : ∀ ρ μ, Iv ds.length ρ μ → ST X W n rest ρ μ P) (hc : X.calm = true := by rfl) (hp : PassesOwn (model X.prog X.w) X.A X.env X.xe := by exact PassesOwn.never) (hst : ∀ x, foldedSetIterable iter X.env x = pure x := by intro _; rfl) : ST X W n (.For tg iter body [] pos :: rest) ρ μ P := by
  intro w σ H D hn m s q
  refine ⟨_, pss_cons (ps_for hp hc (p_ix (tg := tg) (e := iter)) (p_gx (e := tg)) (p_sx (e := body)) hst) (p_sx (e := rest)), ?_⟩
  refine hi w σ H m s _ fun J H1 m1 f1 wk => ?_
  refine ⟨fun i k σ' H' => k = ds.length - i ∧ i ≤ ds.length ∧ ∃ β ρ' μ', Iv i ρ' μ' ∧ Mem X.K H' (w.add β) μ' ∧ Sl X.K H' (w.add β) σ' ρ' ∧ Fr w.α H1 H' ∧ ∀ b ∈ β, Nw H1 b,
    ⟨ds.length, by simp, Nat.zero_le _, [], ρ, μ1, h0, by rw [add_nil]; exact m1, by rw [add_nil]; exact s.fr f1, .refl, fun b hb => absurd hb (by simp)⟩, ?_⟩
  rintro i k σ' H' ⟨rfl, hi', β, ρ', μ', iv, m2, s2, f2, hb⟩
  have g : Same (dl H1 w.all) H' := f2.all.trans dl_same
  have hn2 : n ≤ (w.add β).α.length := by simp; omega
  have grow : ∀ o, P o → Fin X W n (w.add β) H' D o := fun o ho => Fin.grow ((q o ho).step hn f1) hn f2 hb
  by_cases hlt : i < ds.length
  · obtain ⟨d, hdi⟩ : ∃ d, ds[i]? = some d := ⟨ds[i], by simp [hlt]⟩
    obtain ⟨go, yl⟩ := wk.go H' g i d hdi
    refine .inr ⟨go, fun σ3 H3 => ∃ β ρ' μ', Iv (i + 1) ρ' μ' ∧ Mem X.K H3 (w.add β) μ' ∧ Sl X.K H3 (w.add β) σ3 ρ' ∧ Fr w.α H1 H3 ∧ ∀ b ∈ β, Nw H1 b, fun σ3 H3 h => ⟨ds.length - (i + 1), by omega, rfl, hlt, h⟩, fun x H3 y3 => ?_⟩
    obtain ⟨s23, dx⟩ := yl x H3 y3
    have gT : Same (dl H1 w.all) (dl H' (w.add β).all) := fun b o e => by
      have nt := dl_nt e
      obtain ⟨n1, e1⟩ := dl_some e
      refine dl_of (fun z => ?_) (f2 b o e1 (fun z => n1 (List.mem_append_left _ z)) nt) nt
      rcases List.mem_append.mp z with z | z
      · rcases List.mem_append.mp z with z | z
        · exact n1 (List.mem_append_left _ z)
        · exact hb b z o e1 nt
      · exact n1 (List.mem_append_right _ z)
    have dx3 : Dq (dl H3 (w.add β).all) x d := dx _ gT fun b hb' => by
      rcases List.mem_append.mp hb' with z | z
      · obtain ⟨vs, e⟩ := m2.there z
        exact ⟨_, e⟩
      · exact m2.ex1 z
    have f23 : Fr (w.add β).α H' H3 := Fr.of_same s23
    obtain ⟨ρ3, hg, hbody⟩ := hs i d ρ' μ' hdi iv
    refine hg (w.add β) σ' H3 μ' x (m2.same s23) (s2.fr f23) dx3 _ fun σ4 s4 _ => ?_
    refine hbody (w.add β) σ4 H3 _ hn2 (m2.same s23) s4 fun o ho => ?_
    have go_on : ∀ ρ5 μ5, Iv (i + 1) ρ5 μ5 → Nx X (w.add β) H3 (fun _ σ3 H3 => ∃ β ρ' μ', Iv (i + 1) ρ' μ' ∧ Mem X.K H3 (w.add β) μ' ∧ Sl X.K H3 (w.add β) σ3 ρ' ∧ Fr w.α H1 H3 ∧ ∀ b ∈ β, Nw H1 b) ρ5 μ5 := by
      intro ρ5 μ5 iv5 β' σ5 H5 m5 s5 f5 hb5
      rw [wd_add_add] at m5 s5
      have f15 : Fr w.α H1 H5 := fun b o e nb nt => by
        refine f5 b o (s23 _ _ (f2 b o e nb nt)) (fun z => ?_) nt
        rcases List.mem_append.mp z with z | z
        · exact nb z
        · exact hb b z o e nt
      refine ⟨β ++ β', ρ5, μ5, iv5, m5, s5, f15, fun b hbb => ?_⟩
      rcases List.mem_append.mp hbb with z | z
      · exact hb b z
      · exact Nw.back (f2.trans (Fr.of_same s23)) (hb5 b z) fun y => (List.nodup_append.mp m5.nd).2.2 b y b (List.mem_append_right _ z) rfl
    cases o with
    | nx ρ5 μ5 => exact go_on ρ5 μ5 ho
    | ct ρ5 μ5 => exact go_on ρ5 μ5 ho
    | ret r μ5 => exact (Fin.step (grow _ ho) hn2 f23 : Fin X W n (w.add β) H3 D (.ret r μ5))
    | rse ρ5 μ5 C fs => exact (Fin.step (grow _ ho) hn2 f23 : Fin X W n (w.add β) H3 D (.rse ρ5 μ5 C fs))
    | brk ρ5 μ5 =>
      intro β' σ5 H5 m5 s5 f5 hb5
      exact ho ((w.add β).add β') σ5 H5 D (by simp; omega) m5 s5 fun o ho => Fin.grow (Fin.step (grow o ho) hn2 f23) hn2 f5 hb5
  · have ei : i = ds.length := by omega
    subst ei
    refine .inl ⟨wk.stop H' g, ?_⟩
    exact hd ρ' μ' iv (w.add β) σ' H' D hn2 m2 s2 grow
/-! ### defs -/
def PostR (r : Ent) (μ : Sto) : Out → Prop
  | .ret r' μ' => r' = r ∧ μ' = μ
  | _ => False
def Post (r : Ent) (μ : Sto) : Out → Prop
  | .ret r' μ' => r' = r ∧ μ' = μ
  | .nx _ μ' => r = Nn ∧ ∃ ν, μ' = μ ++ ν
  | _ => False
end
theorem sl_start {K : PySem.W.Frag} {H : Hp} {w : Wd} {N : List Str} {vs : List V} {rs : List Ent} (h : Vas K H w vs rs) (hl : rs.length ≤ N.length) : Sl K H w (L2.start N vs) (rs.map some ++ List.replicate (N.length - rs.length) none) := by
  have e := h.1
  refine ⟨by simp [L2.start, e]; try omega, fun i r hi => ?_⟩
  by_cases hk : i < rs.length
  · rw [List.getElem?_append_left (by simpa using hk), List.getElem?_map] at hi
    have hr : rs[i]? = some r := by
      cases q : rs[i]? with
      | none => rw [q] at hi; cases hi
      | some z => rw [q] at hi; simpa using hi
    have hv : i < vs.length := by omega
    refine ⟨vs[i], ?_, h.2 i vs[i] r (by simp [hv]) hr⟩
    unfold L2.start
    rw [List.getElem?_append_left (by simpa using hv), List.getElem?_map]
    simp [hv]
  · rw [List.getElem?_append_right (by simpa using Nat.le_of_not_lt hk)] at hi
    rw [List.getElem?_replicate] at hi
    split at hi <;> simp at hi
section
variable {w : World} {P : Program} {K : PySem.W.Frag} {base : Heap} {mg : Str → Option Value}
theorem Cal.mk' {x : Str} {st : Stmt} {f : Addr} {fd : FuncData} {N ps : List Str} {k : Nat} {C : List Ent → Sto → Ent → Sto → Prop} (F : Fun K x x st f fd) (hm : mg x = some (.ref f)) (Sc : FnScope N ps (defScope st)) (b : Binds K fd ps []) (hN : ps.length ≤ N.length) (hlen : ∀ rs μ r μ', C rs μ r μ' → μ'.length = μ.length)
    (body : ∀ (cdv : Value) (A : Around) (outer : List Env) (s : Shared) (H : Hp) (E : XK), Room k (A.deeper (envOfC x (defScope st) s.heap.objs.size f cdv)) → ∀ rs μ r μ', rs.length = ps.length → C rs μ r μ' →
      ST (cxOf CX0 P w K mg base N x (defScope st) f cdv A outer s H E).nox W0 μ.length (defBody st) (rs.map some ++ List.replicate (N.length - rs.length) none) μ (Post r μ')) : Cal P w K mg base x (k + 1) ps C := by
  refine ⟨f, fd, ?_, hm, F.kp, b⟩
  refine F.ok Sc (fun vs H Q E h => ?_) (fun cdv A outer s H vs Q E hr h => ?_)
  · obtain ⟨w0, μ, rs, r, μ', _, hv, hl, _⟩ := h
    rw [hv.1, hl]
  · obtain ⟨w0, μ, rs, r, μ', m, hv, hl, hC, q⟩ := h
    have hb := body cdv A outer s H E hr rs μ r μ' hl hC
    refine hb w0 _ H _ (Nat.le_of_eq m.len.symm) m (sl_start hv (by omega)) fun o ho => ?_
    have hw : w0.cut μ.length = w0 := by
      show (⟨w0.α.take μ.length, w0.ξ⟩ : Wd) = w0
      rw [← m.len, List.take_length]
    cases o with
    | ret r2 μ2 =>
      obtain ⟨rfl, rfl⟩ := ho
      intro v H' m' f hv'
      rw [hw] at m' hv'
      exact q v H' m' f hv'
    | nx ρ2 μ2 =>
      obtain ⟨rfl, ν, rfl⟩ := ho
      intro β σ' H' m' s' f hb
      have mc := m'.cut μ'.length
      have e : (w0.add β).cut μ'.length = w0 := by
        show (⟨(w0.α ++ β).take μ'.length, w0.ξ⟩ : Wd) = w0
        rw [hlen _ _ _ _ hC, ← m.len, List.take_left]
      rw [e, List.take_left] at mc
      exact q .non H' mc f Dq.non
    | brk ρ2 μ2 => exact False.elim ho
    | ct ρ2 μ2 => exact False.elim ho
    | rse ρ2 μ2 C fs => exact False.elim ho
end
end J
/-! J6: short names for the commonest. -/
namespace J
open PySem PySem.Spec
open PyProof.Rows L2
variable [KC]

/-- the built-ins that no module's name hides -/
structure Bt (mg : Str → Option Value) : Prop where
  len : mg "len" = none
  str : mg "str" = none
  int : mg "int" = none
  bool : mg "bool" = none
  range : mg "range" = none
  list : mg "list" = none
  tuple : mg "tuple" = none
  all : mg "all" = none
  any : mg "any" = none
  isinstance : mg "isinstance" = none
  enumerate : mg "enumerate" = none
  repr : mg "repr" = none
  abs : mg "abs" = none
  max : mg "max" = none
  min : mg "min" = none
  divmod : mg "divmod" = none

section
variable {X : Cx} {ρ : REnv} {μ μ1 μ2 μ3 : Sto} {x y z r : Ent} {a b c e o tg iter elt : Expr} {es : List Expr} {pos p2 p apos : Pos} {rs : List Ent} {ds out ys : List PyData} {d d2 : PyData} {i j : Int} {s t n : Str} {k l : Bool}
/-- the name in slot i -/
theorem nm (i : Nat) {n : Str} {r : Ent} (hN : X.N[i]? = some n := by rfl) (hv : Vis X.env.scope n := by first | exact Or.inl rfl | exact Or.inr (Or.inl rfl) | exact Or.inr (Or.inr rfl)) (h : ρ[i]? = some (some r) := by rfl) (hd : (n == ("__debug__" : Str)) = false := by decide) (hcd : (n == ("__classdict__" : Str)) = false := by decide) : EV X (.Name n pos) ρ μ r μ := EV.name hN hv h hd hcd
/-- a constant of the module -/
theorem gl {v : V} {u : Value} (hm : X.mg n = some u) (r : RelV v u) (hv : ∀ H, Dq H v d) (hg : Gl X n := by rfl) (hd : (n == ("__debug__" : Str)) = false := by decide) : EV X (.Name n pos) ρ μ (.dat d) μ := fun w σ H m s Q q => ⟨_, pe_glob hg hm r hd, q _ H m .refl (hv _)⟩
theorem oAdd (ha : EV X a ρ μ (Ii i) μ1) (hb : EV X b ρ μ1 (Ii j) μ2) : EV X (.BinOp a .Add b pos) ρ μ (Ii (i + j)) μ2 := ha.op op_add hb (r2_I0 fun _ => .int _)
theorem oSub (ha : EV X a ρ μ (Ii i) μ1) (hb : EV X b ρ μ1 (Ii j) μ2) : EV X (.BinOp a .Sub b pos) ρ μ (Ii (i - j)) μ2 := ha.op op_sub hb (r2_I0 fun _ => .int _)
theorem oMul (ha : EV X a ρ μ (Ii i) μ1) (hb : EV X b ρ μ1 (Ii j) μ2) (h : CMul i j) : EV X (.BinOp a .Mult b pos) ρ μ (Ii (i * j)) μ2 := ha.op op_mul hb (r2_I h fun _ => .int _)
theorem oMod (ha : EV X a ρ μ (Ii i) μ1) (hb : EV X b ρ μ1 (Ii j) μ2) (h : 0 < j) : EV X (.BinOp a .Mod b pos) ρ μ (Ii (i % j)) μ2 := ha.op op_mod hb (r2_I h fun _ => .int _)
theorem oDiv (ha : EV X a ρ μ (Ii i) μ1) (hb : EV X b ρ μ1 (Ii j) μ2) (h : CDiv i j) : EV X (.BinOp a .FloorDiv b pos) ρ μ (Ii (i / j)) μ2 := ha.op op_fdiv hb (r2_I h fun _ => .int _)
theorem oPow (ha : EV X a ρ μ (Ii i) μ1) (hb : EV X b ρ μ1 (Ii j) μ2) (h : CPow i j) : EV X (.BinOp a .Pow b pos) ρ μ (Ii (i ^ j.toNat)) μ2 := ha.op op_pow hb (r2_I h fun _ => .int _)
theorem oAddS (ha : EV X a ρ μ (Ss s) μ1) (hb : EV X b ρ μ1 (Ss t) μ2) (h : s.length + t.length ≤ sizeLine) : EV X (.BinOp a .Add b pos) ρ μ (Ss (s ++ t)) μ2 := ha.op op_add_str hb (r2_addS h)
theorem oCat (ha : EV X a ρ μ (Ls ds) μ1) (hb : EV X b ρ μ1 (Ls ys) μ2) (h : ds.length + ys.length ≤ sizeLine) : EV X (.BinOp a .Add b pos) ρ μ (Ls (ds ++ ys)) μ2 := ha.op op_cat hb (r2_cat h)
theorem oCatT (ha : EV X a ρ μ (Tp ds) μ1) (hb : EV X b ρ μ1 (Tp ys) μ2) (h : ds.length + ys.length ≤ sizeLine) : EV X (.BinOp a .Add b pos) ρ μ (Tp (ds ++ ys)) μ2 := ha.op op_catA hb (r2_catT h)
theorem cLt (ha : EV X a ρ μ (Ii i) μ1) (hb : EV X b ρ μ1 (Ii j) μ2) : EV X (.Compare a [.Lt] [b] pos) ρ μ (Bb (decide (i < j))) μ2 := ha.cmp op_lt (nomark _) hb (r2_I0 fun _ => .bl _)
theorem cLe (ha : EV X a ρ μ (Ii i) μ1) (hb : EV X b ρ μ1 (Ii j) μ2) : EV X (.Compare a [.LtE] [b] pos) ρ μ (Bb (decide (i ≤ j))) μ2 := ha.cmp op_le (nomark _) hb (r2_I0 fun _ => .bl _)
theorem cGt (ha : EV X a ρ μ (Ii i) μ1) (hb : EV X b ρ μ1 (Ii j) μ2) : EV X (.Compare a [.Gt] [b] pos) ρ μ (Bb (decide (j < i))) μ2 := ha.cmp op_gt (nomark _) hb (r2_I0 fun _ => .bl _)
theorem cGe (ha : EV X a ρ μ (Ii i) μ1) (hb : EV X b ρ μ1 (Ii j) μ2) : EV X (.Compare a [.GtE] [b] pos) ρ μ (Bb (decide (j ≤ i))) μ2 := ha.cmp op_ge (nomark _) hb (r2_I0 fun _ => .bl _)
theorem tLt (ha : EV X a ρ μ (Ii i) μ1) (hb : EV X b ρ μ1 (Ii j) μ2) : TV X (.Compare a [.Lt] [b] pos) ρ μ (decide (i < j)) μ2 := TV.cmp op_lt (nomark _) ha hb (r2_I0 fun _ => .bl _)
theorem tLe (ha : EV X a ρ μ (Ii i) μ1) (hb : EV X b ρ μ1 (Ii j) μ2) : TV X (.Compare a [.LtE] [b] pos) ρ μ (decide (i ≤ j)) μ2 := TV.cmp op_le (nomark _) ha hb (r2_I0 fun _ => .bl _)
theorem tGt (ha : EV X a ρ μ (Ii i) μ1) (hb : EV X b ρ μ1 (Ii j) μ2) : TV X (.Compare a [.Gt] [b] pos) ρ μ (decide (j < i)) μ2 := TV.cmp op_gt (nomark _) ha hb (r2_I0 fun _ => .bl _)
theorem tGe (ha : EV X a ρ μ (Ii i) μ1) (hb : EV X b ρ μ1 (Ii j) μ2) : TV X (.Compare a [.GtE] [b] pos) ρ μ (decide (j ≤ i)) μ2 := TV.cmp op_ge (nomark _) ha hb (r2_I0 fun _ => .bl _)
theorem cEq (ha : EV X a ρ μ (.dat d) μ1) (hb : EV X b ρ μ1 (.dat d2) μ2) (h : likeD d d2 = true := by rfl) : EV X (.Compare a [.Eq] [b] pos) ρ μ (Bb (eqS d d2)) μ2 := ha.cmp op_eq (nomark _) hb (r2_eq h)
theorem cNe (ha : EV X a ρ μ (.dat d) μ1) (hb : EV X b ρ μ1 (.dat d2) μ2) (h : likeD d d2 = true := by rfl) : EV X (.Compare a [.NotEq] [b] pos) ρ μ (Bb (!eqS d d2)) μ2 := ha.cmp op_ne (nomark _) hb (r2_ne h)
theorem tEq (ha : EV X a ρ μ (.dat d) μ1) (hb : EV X b ρ μ1 (.dat d2) μ2) (h : likeD d d2 = true := by rfl) : TV X (.Compare a [.Eq] [b] pos) ρ μ (eqS d d2) μ2 := TV.cmp op_eq (nomark _) ha hb (r2_eq h)
theorem tNe (ha : EV X a ρ μ (.dat d) μ1) (hb : EV X b ρ μ1 (.dat d2) μ2) (h : likeD d d2 = true := by rfl) : TV X (.Compare a [.NotEq] [b] pos) ρ μ (!eqS d d2) μ2 := TV.cmp op_ne (nomark _) ha hb (r2_ne h)
theorem tEqD (hu : X.A.units + 64 < cLine) (ha : EV X a ρ μ (.dat d) μ1) (hb : EV X b ρ μ1 (.dat d2) μ2) (h1 : SeqAt.shaped d = true) (h2 : SeqAt.shaped d2 = true) : TV X (.Compare a [.Eq] [b] pos) ρ μ (PyData.eqv d d2) μ2 := TV.cmp (op_eqD hu) (nomark _) ha hb (r2_eqD h1 h2)
theorem tNeD (hu : X.A.units + 64 < cLine) (ha : EV X a ρ μ (.dat d) μ1) (hb : EV X b ρ μ1 (.dat d2) μ2) (h1 : SeqAt.shaped d = true) (h2 : SeqAt.shaped d2 = true) : TV X (.Compare a [.NotEq] [b] pos) ρ μ (!PyData.eqv d d2) μ2 := TV.cmp (op_neD hu) (nomark _) ha hb (r2_neD h1 h2)
theorem cEqD (hu : X.A.units + 64 < cLine) (ha : EV X a ρ μ (.dat d) μ1) (hb : EV X b ρ μ1 (.dat d2) μ2) (h1 : SeqAt.shaped d = true) (h2 : SeqAt.shaped d2 = true) : EV X (.Compare a [.Eq] [b] pos) ρ μ (Bb (PyData.eqv d d2)) μ2 := ha.cmp (op_eqD hu) (nomark _) hb (r2_eqD h1 h2)
theorem cIsN {kk} (ha : EV X a ρ μ (.dat d) μ1) : EV X (.Compare a [.Is] [.Constant .none kk p2] pos) ρ μ (Bb (isNone d)) μ1 := ha.cmp op_isN (nomark _) EV.non r2_isN
theorem cNotN {kk} (ha : EV X a ρ μ (.dat d) μ1) : EV X (.Compare a [.IsNot] [.Constant .none kk p2] pos) ρ μ (Bb (!isNone d)) μ1 := ha.cmp op_notN (nomark _) EV.non r2_notN
theorem tIsN {kk} (ha : EV X a ρ μ (.dat d) μ1) : TV X (.Compare a [.Is] [.Constant .none kk p2] pos) ρ μ (isNone d) μ1 := TV.cmp op_isN (nomark _) ha EV.non r2_isN
theorem tNotN {kk} (ha : EV X a ρ μ (.dat d) μ1) : TV X (.Compare a [.IsNot] [.Constant .none kk p2] pos) ρ μ (!isNone d) μ1 := TV.cmp op_notN (nomark _) ha EV.non r2_notN
theorem tInL (ha : EV X a ρ μ (.dat d) μ1) (hb : EV X b ρ μ1 (Ls ds) μ2) (h1 : flatD d = true) (h2 : ds.all flatD = true) (hm : behindInMarks .In b = false := by rfl) : TV X (.Compare a [.In] [b] pos) ρ μ (inD d ds) μ2 := TV.cmp op_in_seq hm ha hb (r2_inL (neg := false) h1 h2)
theorem tInT (ha : EV X a ρ μ (.dat d) μ1) (hb : EV X b ρ μ1 (Tp ds) μ2) (h1 : flatD d = true) (h2 : ds.all flatD = true) (hm : behindInMarks .In b = false := by rfl) : TV X (.Compare a [.In] [b] pos) ρ μ (inD d ds) μ2 := TV.cmp op_in_seq hm ha hb (r2_inT (neg := false) h1 h2)
theorem tInC {n0 : Nat} (ha : EV X a ρ μ (.dat d) μ1) (hb : EV X b ρ μ1 (.ptr n0) μ2) (hn : μ2[n0]? = some ds) (h1 : flatD d = true) (h2 : ds.all flatD = true) (hm : behindInMarks .In b = false := by rfl) : TV X (.Compare a [.In] [b] pos) ρ μ (inD d ds) μ2 := TV.cmp op_in_seq hm ha hb (r2_inC (neg := false) hn h1 h2)
theorem tNiC {n0 : Nat} (ha : EV X a ρ μ (.dat d) μ1) (hb : EV X b ρ μ1 (.ptr n0) μ2) (hn : μ2[n0]? = some ds) (h1 : flatD d = true) (h2 : ds.all flatD = true) (hm : behindInMarks .NotIn b = false := by rfl) : TV X (.Compare a [.NotIn] [b] pos) ρ μ (!inD d ds) μ2 := TV.cmp op_notIn_seq hm ha hb (r2_inC (neg := true) hn h1 h2)
theorem tNiT (ha : EV X a ρ μ (.dat d) μ1) (hb : EV X b ρ μ1 (Tp ds) μ2) (h1 : flatD d = true) (h2 : ds.all flatD = true) (hm : behindInMarks .NotIn b = false := by rfl) : TV X (.Compare a [.NotIn] [b] pos) ρ μ (!inD d ds) μ2 := TV.cmp op_notIn_seq hm ha hb (r2_inT (neg := true) h1 h2)
theorem cInL (ha : EV X a ρ μ (.dat d) μ1) (hb : EV X b ρ μ1 (Ls ds) μ2) (h1 : flatD d = true) (h2 : ds.all flatD = true) (hm : behindInMarks .In b = false := by rfl) : EV X (.Compare a [.In] [b] pos) ρ μ (Bb (inD d ds)) μ2 := ha.cmp op_in_seq hm hb (r2_inL (neg := false) h1 h2)
theorem cInSign {c0 : Nat} (ha : EV X a ρ μ (Ss ⟨#[c0]⟩) μ1) (hb : EV X b ρ μ1 (Ss t) μ2) (hm : behindInMarks .In b = false := by rfl) : EV X (.Compare a [.In] [b] pos) ρ μ (Bb (decide (c0 ∈ t.cps.toList))) μ2 := ha.cmp op_in_sign hm hb r2_inSign
/-- None (or any) in a list of anything -/
theorem r2_inDeep {K : PySem.W.Frag} (h1 : SeqAt.shaped d = true) (h2 : SeqAt.shaped (.list ds) = true) : R2V K (rInD K) (.dat d) (Ls ds) (Bb (ds.any fun z => PyData.eqv z d)) μ := r2v_pure fun w H v u m a b =>
  ⟨_, Dq.bl _, fun Q q => ⟨d, ds, Dq.dp (Mem.cst (by assumption)) dl_same _ _ a (SeqAt.canLay_of_shaped h1), Dq.dp (Mem.cst (by assumption)) dl_same _ _ b (SeqAt.canLay_of_shaped h2), h1, h2, q⟩⟩
theorem tInDeep (hu : X.A.units + 65 < cLine) (ha : EV X a ρ μ (.dat d) μ1) (hb : EV X b ρ μ1 (Ls ds) μ2) (h1 : SeqAt.shaped d = true) (h2 : SeqAt.shaped (.list ds) = true) (hm : behindInMarks .In b = false := by rfl) : TV X (.Compare a [.In] [b] pos) ρ μ (ds.any fun z => PyData.eqv z d) μ2 := TV.cmp (op_inD hu) hm ha hb (r2_inDeep h1 h2)
/-- a < b < c of ints -/
theorem chainLe {op op' : CmpOp} {g g' : Int → Int → Bool} {i2 : Int} (ho : OpR X (compareOp op) (rI0 fun i j => .bl (g i j))) (ho' : OpR X (compareOp op') (rI0 fun i j => .bl (g' i j))) (ha : EV X a ρ μ (Ii i) μ1) (hb : EV X b ρ μ1 (Ii j) μ2) (hc : EV X c ρ μ2 (Ii i2) μ2)
    (hm : lastMarks [op, op'] [b, c] = false := by with_unfolding_all rfl) : EV X (.Compare a [op, op'] [b, c] pos) ρ μ (Bb (g i j && g' j i2)) μ2 := by
  intro w σ H m s Q q
  refine ⟨_, pe_chain ho ho' (p_ex (e := a)) (p_ex (e := b)) (p_ex (e := c)) hm, ?_⟩
  refine ha w σ H m s _ fun v H1 m1 f1 h1 => ?_
  cases h1
  refine hb w σ H1 m1 (s.fr f1) _ fun v H2 m2 f2 h2 => ?_
  cases h2
  refine ⟨i, j, rfl, rfl, _, rfl, ?_⟩
  cases hk : g i j with
  | true =>
    refine iteT ?_
    refine hc w σ H2 m2 ((s.fr f1).fr f2) _ fun v H3 m3 f3 h3 => ?_
    cases h3
    refine ⟨j, i2, rfl, rfl, ?_⟩
    have := q (.bl (g' j i2)) H3 m3 ((f1.trans f2).trans f3)
    rw [hk, Bool.true_and] at this
    exact this (Dq.bl _)
  | false =>
    refine iteF ?_
    have := q (.bl false) H2 m2 (f1.trans f2)
    rw [hk, Bool.false_and] at this
    exact this (Dq.bl _)
theorem tChainLe {op op' : CmpOp} {g g' : Int → Int → Bool} {i2 : Int} (ho : OpR X (compareOp op) (rI0 fun i j => .bl (g i j))) (ho' : OpR X (compareOp op') (rI0 fun i j => .bl (g' i j))) (ha : EV X a ρ μ (Ii i) μ1) (hb : EV X b ρ μ1 (Ii j) μ2) (hc : EV X c ρ μ2 (Ii i2) μ2)
    (hm : lastMarks [op, op'] [b, c] = false := by with_unfolding_all rfl) : TV X (.Compare a [op, op'] [b, c] pos) ρ μ (g i j && g' j i2) μ2 := by
  intro w σ H m s Q q
  refine ⟨_, pt_chain ho ho' (p_ex (e := a)) (p_ex (e := b)) (p_ex (e := c)) hm, ?_⟩
  refine ha w σ H m s _ fun v H1 m1 f1 h1 => ?_
  cases h1
  refine hb w σ H1 m1 (s.fr f1) _ fun v H2 m2 f2 h2 => ?_
  cases h2
  refine ⟨i, j, rfl, rfl, _, rfl, ?_⟩
  cases hk : g i j with
  | true =>
    refine iteT ?_
    refine hc w σ H2 m2 ((s.fr f1).fr f2) _ fun v H3 m3 f3 h3 => ?_
    cases h3
    refine ⟨j, i2, rfl, rfl, _, rfl, ?_⟩
    have := q H3 m3 ((f1.trans f2).trans f3)
    rwa [hk, Bool.true_and] at this
  | false =>
    refine iteF ⟨_, rfl, ?_⟩
    have := q H2 m2 (f1.trans f2)
    rwa [hk, Bool.false_and] at this
/-! built-ins -/
theorem bLenS (T : Bt X.mg) (ha : EV X a ρ μ (Ss s) μ1) (h : s.length ≤ sizeLine) (hg : Gl X "len" := by rfl) (hs : starEach [a] X.env = (false, eval a X.env) :: starEach [] X.env := by rfl) : EV X (.Call (.Name "len" p) [a] [] pos) ρ μ (Ii s.length) μ1 := EV.callB call_len_str T.len PySem.boot_len (AV.cons ha AV.nil hs) (cv_lenS h) hg (by decide) (by decide) hs (by rfl)
theorem bLenL (T : Bt X.mg) (ha : EV X a ρ μ (Ls ds) μ1) (hg : Gl X "len" := by rfl) (hs : starEach [a] X.env = (false, eval a X.env) :: starEach [] X.env := by rfl) : EV X (.Call (.Name "len" p) [a] [] pos) ρ μ (Ii ds.length) μ1 := EV.callB call_len_seq T.len PySem.boot_len (AV.cons ha AV.nil hs) cv_lenL hg (by decide) (by decide) hs (by rfl)
theorem bLenT (T : Bt X.mg) (ha : EV X a ρ μ (Tp ds) μ1) (hg : Gl X "len" := by rfl) (hs : starEach [a] X.env = (false, eval a X.env) :: starEach [] X.env := by rfl) : EV X (.Call (.Name "len" p) [a] [] pos) ρ μ (Ii ds.length) μ1 := EV.callB call_len_seq T.len PySem.boot_len (AV.cons ha AV.nil hs) cv_lenT hg (by decide) (by decide) hs (by rfl)
theorem bLenC {n0 : Nat} (T : Bt X.mg) (ha : EV X a ρ μ (.ptr n0) μ1) (hn : μ1[n0]? = some ds) (hg : Gl X "len" := by rfl) (hs : starEach [a] X.env = (false, eval a X.env) :: starEach [] X.env := by rfl) : EV X (.Call (.Name "len" p) [a] [] pos) ρ μ (Ii ds.length) μ1 := EV.callB call_len_seq T.len PySem.boot_len (AV.cons ha AV.nil hs) (cv_lenC hn) hg (by decide) (by decide) hs (by rfl)
theorem bLenScr {ns : List Int} (T : Bt X.mg) (ha : EV X a ρ μ (.scr ns) μ1) (hg : Gl X "len" := by rfl) (hs : starEach [a] X.env = (false, eval a X.env) :: starEach [] X.env := by rfl) : EV X (.Call (.Name "len" p) [a] [] pos) ρ μ (Ii ns.length) μ1 := EV.callB call_len_seq T.len PySem.boot_len (AV.cons ha AV.nil hs) cv_lenScr hg (by decide) (by decide) hs (by rfl)
theorem bStr (T : Bt X.mg) (ha : EV X a ρ μ (Ii i) μ1) (h : i.natAbs.log2 < 1920) (hg : Gl X "str" := by rfl) (hs : starEach [a] X.env = (false, eval a X.env) :: starEach [] X.env := by rfl) : EV X (.Call (.Name "str" p) [a] [] pos) ρ μ (Ss (toString i : String)) μ1 := EV.callTy call_str_int T.str (by decide +kernel) (AV.cons ha AV.nil hs) (cv_str h) hg (by decide) (by decide) hs (by rfl)
theorem bIntI (T : Bt X.mg) (ha : EV X a ρ μ (Ii i) μ1) (hg : Gl X "int" := by rfl) (hs : starEach [a] X.env = (false, eval a X.env) :: starEach [] X.env := by rfl) : EV X (.Call (.Name "int" p) [a] [] pos) ρ μ (Ii i) μ1 := EV.callTy call_int1 T.int (by decide +kernel) (AV.cons ha AV.nil hs) cv_int1 hg (by decide) (by decide) hs (by rfl)
theorem bIntS (T : Bt X.mg) (ha : EV X a ρ μ (Ss s) μ1) (h : PySem.intText? s = some i) (hl : s.length ≤ 640) (hg : Gl X "int" := by rfl) (hs : starEach [a] X.env = (false, eval a X.env) :: starEach [] X.env := by rfl) : EV X (.Call (.Name "int" p) [a] [] pos) ρ μ (Ii i) μ1 := EV.callTy call_int_str T.int (by decide +kernel) (AV.cons ha AV.nil hs) (cv_intS h hl) hg (by decide) (by decide) hs (by rfl)
theorem bAll {bs : List Bool} (T : Bt X.mg) (hc : X.calm = true) (ha : EV X a ρ μ (Ls (bs.map .bool)) μ1) (hg : Gl X "all" := by rfl) (hs : starEach [a] X.env = (false, eval a X.env) :: starEach [] X.env := by rfl) : EV X (.Call (.Name "all" p) [a] [] pos) ρ μ (Bb (bs.all id)) μ1 := EV.callB (cr_all hc) T.all (by decide +kernel) (AV.cons ha AV.nil hs) cv_all hg (by decide) (by decide) hs (by rfl)
theorem bAny {bs : List Bool} (T : Bt X.mg) (hc : X.calm = true) (ha : EV X a ρ μ (Ls (bs.map .bool)) μ1) (hg : Gl X "any" := by rfl) (hs : starEach [a] X.env = (false, eval a X.env) :: starEach [] X.env := by rfl) : EV X (.Call (.Name "any" p) [a] [] pos) ρ μ (Bb (bs.any id)) μ1 := EV.callB (cr_any hc) T.any (by decide +kernel) (AV.cons ha AV.nil hs) cv_any hg (by decide) (by decide) hs (by rfl)
theorem bTupL (T : Bt X.mg) (ha : EV X a ρ μ (Ls ds) μ1) (hg : Gl X "tuple" := by rfl) (hs : starEach [a] X.env = (false, eval a X.env) :: starEach [] X.env := by rfl) : EV X (.Call (.Name "tuple" p) [a] [] pos) ρ μ (Tp ds) μ1 := EV.callTy call_tuple_of T.tuple (by decide +kernel) (AV.cons ha AV.nil hs) cv_tupL hg (by decide) (by decide) hs (by rfl)
theorem bLstT (T : Bt X.mg) (ha : EV X a ρ μ (Tp ds) μ1) (hg : Gl X "list" := by rfl) (hs : starEach [a] X.env = (false, eval a X.env) :: starEach [] X.env := by rfl) : EV X (.Call (.Name "list" p) [a] [] pos) ρ μ (Ls ds) μ1 := EV.callTy call_list_of T.list (by decide +kernel) (AV.cons ha AV.nil hs) cv_lstT hg (by decide) (by decide) hs (by rfl)
theorem bAbs (T : Bt X.mg) (ha : EV X a ρ μ (Ii i) μ1) (hg : Gl X "abs" := by rfl) (hs : starEach [a] X.env = (false, eval a X.env) :: starEach [] X.env := by rfl) : EV X (.Call (.Name "abs" p) [a] [] pos) ρ μ (Ii (if i < 0 then -i else i)) μ1 := EV.callB call_abs T.abs (by decide +kernel) (AV.cons ha AV.nil hs) cv_abs hg (by decide) (by decide) hs (by rfl)
theorem isI (T : Bt X.mg) {T' : String} {n : Str} (ha : EV X a ρ μ (.dat d) μ1) (hk : kitB (tyD d) T' = some k) (hvT : bootBuiltins n = some (.type T')) (hmT : X.mg n = none) (hg : Gl X "isinstance" := by rfl) (hgT : Gl X n := by rfl) (hn : n ≠ "__name__" := by decide)
    (hdb : (n == ("__debug__" : Str)) = false := by decide)
    (he : starEach [a, .Name n p2] X.env = (false, eval a X.env) :: starEach [.Name n p2] X.env := by rfl) (he2 : starEach [.Name n p2] X.env = (false, eval (.Name n p2) X.env) :: starEach [] X.env := by rfl) (hpl : (backTo pos (starEach [.Name n p2] X.env)).any (·.1) = false := by rfl) (hob : isObj d = false := by first | rfl | assumption) :
    EV X (.Call (.Name "isinstance" p) [a, .Name n p2] [] pos) ρ μ (Bb k) μ1 := EV.isi ha hob hk T.isinstance hmT hvT hg hgT hn hdb he he2 hpl
theorem ixT (ha : EV X a ρ μ (Tp ds) μ1) (hb : EV X b ρ μ1 (Ii i) μ2) (h : atI ds i = some d) (hs : PlainIx b := by exact fun _ _ => rfl) : EV X (.Subscript a b pos) ρ μ (.dat d) μ2 := EV.ix ix_tup ha hb (r2_ixT h) hs
theorem ixL (ha : EV X a ρ μ (Ls ds) μ1) (hb : EV X b ρ μ1 (Ii i) μ2) (h : atI ds i = some d) (hs : PlainIx b := by exact fun _ _ => rfl) : EV X (.Subscript a b pos) ρ μ (.dat d) μ2 := EV.ix ix_list ha hb (r2_ixL h) hs
theorem ixC {n0 : Nat} (ha : EV X a ρ μ (.ptr n0) μ1) (hb : EV X b ρ μ1 (Ii i) μ2) (hn : μ2[n0]? = some ds) (h : atI ds i = some d) (hs : PlainIx b := by exact fun _ _ => rfl) : EV X (.Subscript a b pos) ρ μ (.dat d) μ2 := EV.ix ix_list ha hb (r2_ixC hn h) hs
theorem ixS {c0 : Nat} (ha : EV X a ρ μ (Ss s) μ1) (hb : EV X b ρ μ1 (Ii i) μ2) (hl : s.length ≤ sizeLine) (h : atI s.cps.toList i = some c0) (hs : PlainIx b := by exact fun _ _ => rfl) : EV X (.Subscript a b pos) ρ μ (Ss ⟨#[c0]⟩) μ2 := EV.ix ix_str ha hb (r2_ixS hl h) hs
end
end J
/-! J7: defs by name, contracts by data. -/
namespace J
open PySem PySem.Spec
open PyProof.Rows L2
variable [KC]

abbrev Con := List Ent → Sto → Ent → Sto → Prop
def fn1 (pre : PyData → Prop) (f : PyData → PyData) : Con := fun rs μ r μ' => ∃ d, rs = [.dat d] ∧ pre d ∧ r = .dat (f d) ∧ μ' = μ
def fn2 (pre : PyData → PyData → Prop) (f : PyData → PyData → PyData) : Con := fun rs μ r μ' => ∃ d e, rs = [.dat d, .dat e] ∧ pre d e ∧ r = .dat (f d e) ∧ μ' = μ
def fn3 (pre : PyData → PyData → PyData → Prop) (f : PyData → PyData → PyData → PyData) : Con := fun rs μ r μ' => ∃ d e g, rs = [.dat d, .dat e, .dat g] ∧ pre d e g ∧ r = .dat (f d e g) ∧ μ' = μ
structure Df (K : PySem.W.Frag) (mg : Str → Option Value) (n : Str) (st : Stmt) : Prop where
  ex : ∃ f fd, Fun K n n st f fd ∧ mg n = some (.ref f)
section
variable {w : World} {P : Program} {K : PySem.W.Frag} {base : Heap} {mg : Str → Option Value}
theorem Df.calN {x : Str} {st : Stmt} {N ps : List Str} {k : Nat} {C : Con} (D : Df K mg x st) (Sc : FnScope N ps (defScope st))
    (hb : ∀ (kV doc pm : Value) (an : Option Addr) (cdv ct : Value) (us : List Value), us.length = ps.length → bindArgs (PySem.W.fnOf x x (defArgs st) (defBody st) (defScope st) .none kV doc pm an cdv ct) ⟨us, []⟩ = pure (ps.zip us))
    (hN : ps.length ≤ N.length) (hlen : ∀ rs μ r μ', C rs μ r μ' → μ'.length = μ.length)
    (body : ∀ (f : Addr) (cdv : Value) (A : Around) (outer : List Env) (s : Shared) (H : Hp) (E : XK), Room k (A.deeper (envOfC x (defScope st) s.heap.objs.size f cdv)) → ∀ rs μ r μ', C rs μ r μ' →
      ST (cxOf CX0 P w K mg base N x (defScope st) f cdv A outer s H E).nox W0 μ.length (defBody st) (rs.map some ++ List.replicate (N.length - rs.length) none) μ (Post r μ')) : Cal P w K mg base x (k + 1) ps C := by
  obtain ⟨f, fd, F, hm⟩ := D.ex
  exact Cal.mk' F hm Sc (F.binds hb) hN hlen fun cdv A outer s H E hr rs μ r μ' _ hC => body f cdv A outer s H E hr rs μ r μ' hC
theorem Df.cal {x : Str} {st : Stmt} {N ps : List Str} {k : Nat} {C : Con} (D : Df K mg x st) (Sc : FnScope N ps (defScope st))
    (hb : ∀ (kV doc pm : Value) (an : Option Addr) (cdv ct : Value) (us : List Value), us.length = ps.length → bindArgs (PySem.W.fnOf x x (defArgs st) (defBody st) (defScope st) .none kV doc pm an cdv ct) ⟨us, []⟩ = pure (ps.zip us))
    (hN : ps.length ≤ N.length) (hlen : ∀ rs μ r μ', C rs μ r μ' → μ'.length = μ.length)
    (body : ∀ (f : Addr) (cdv : Value) (A : Around) (outer : List Env) (s : Shared) (H : Hp) (E : XK), Room k (A.deeper (envOfC x (defScope st) s.heap.objs.size f cdv)) → ∀ rs μ r μ', C rs μ r μ' →
      ST (cxOf CX0 P w K mg base N x (defScope st) f cdv A outer s H E).nox W0 μ.length (defBody st) (rs.map some ++ List.replicate (N.length - rs.length) none) μ (PostR r μ')) : Cal P w K mg base x (k + 1) ps C :=
  D.calN Sc hb hN hlen fun f cdv A outer s H E hr rs μ r μ' hC => (body f cdv A outer s H E hr rs μ r μ' hC).mono fun o ho => by
    cases o with
    | ret r' ν => exact ho
    | nx ρ ν => exact False.elim ho
    | brk ρ ν => exact False.elim ho
    | ct ρ ν => exact False.elim ho
    | rse ρ ν C fs => exact False.elim ho
end
section
variable {X : Cx} {ρ : REnv} {μ μ1 μ2 μ3 : Sto} {n : Str} {i : Int} {s : Str} {pos : Pos}
theorem gI (h : ∃ t, X.mg n = some (.int i t)) (hg : Gl X n := by rfl) (hd : (n == ("__debug__" : Str)) = false := by decide) : EV X (.Name n pos) ρ μ (Ii i) μ := by
  obtain ⟨t, h⟩ := h
  exact gl (v := .int i) h ⟨t, rfl⟩ (fun _ => .int i) hg hd
theorem gS (h : ∃ t, X.mg n = some (.str s t)) (hg : Gl X n := by rfl) (hd : (n == ("__debug__" : Str)) = false := by decide) : EV X (.Name n pos) ρ μ (Ss s) μ := by
  obtain ⟨t, h⟩ := h
  exact gl (v := .str s) h ⟨t, rfl⟩ (fun _ => .str s) hg hd
end
section
variable {X : Cx} {W : WX} {ρ : REnv} {μ μ1 μ2 : Sto} {a b c e : Expr} {es rest : List Expr} {pos : Pos} {k l : Bool} {z : Ent} {n : Nat} {sts body orelse : List Stmt} {P : Out → Prop}
/-- and, or of tests that may all be asked -/
theorem WV.andP (h : TV X a ρ μ k μ) (h2 : WV X (.BoolOp .And (b :: es) pos) ρ μ l μ) : WV X (.BoolOp .And (a :: b :: es) pos) ρ μ (k && l) μ := by
  cases k with
  | true => exact WV.and h (fun z => by cases z) fun _ => by simpa using h2
  | false => exact WV.and h (fun _ => ⟨rfl, rfl⟩) fun z => by cases z
theorem WV.orP (h : TV X a ρ μ k μ) (h2 : WV X (.BoolOp .Or (b :: es) pos) ρ μ l μ) : WV X (.BoolOp .Or (a :: b :: es) pos) ρ μ (k || l) μ := by
  cases k with
  | false => exact WV.or h (fun z => by cases z) fun _ => by simpa using h2
  | true => exact WV.or h (fun _ => ⟨rfl, rfl⟩) fun z => by cases z
/-- the second asked only where the first says so -/
theorem WV.andD (h : TV X a ρ μ k μ) (h2 : k = true → WV X (.BoolOp .And (b :: es) pos) ρ μ l μ) : WV X (.BoolOp .And (a :: b :: es) pos) ρ μ (k && l) μ := by
  cases k with
  | true => exact WV.and h (fun z => by cases z) fun _ => by simpa using h2 rfl
  | false => exact WV.and h (fun _ => ⟨rfl, rfl⟩) fun z => by cases z
theorem WV.orD (h : TV X a ρ μ k μ) (h2 : k = false → WV X (.BoolOp .Or (b :: es) pos) ρ μ l μ) : WV X (.BoolOp .Or (a :: b :: es) pos) ρ μ (k || l) μ := by
  cases k with
  | false => exact WV.or h (fun z => by cases z) fun _ => by simpa using h2 rfl
  | true => exact WV.or h (fun _ => ⟨rfl, rfl⟩) fun z => by cases z
theorem EV.andD (h : EV X a ρ μ (Bb k) μ) (h2 : k = true → EV X (.BoolOp .And (b :: es) pos) ρ μ (Bb l) μ) : EV X (.BoolOp .And (a :: b :: es) pos) ρ μ (Bb (k && l)) μ := by
  cases k with
  | true => exact EV.and h (fun z => by cases z) fun _ => by simpa using h2 rfl
  | false => exact EV.and h (fun _ => ⟨rfl, rfl⟩) fun z => by cases z
theorem EV.orD (h : EV X a ρ μ (Bb k) μ) (h2 : k = false → EV X (.BoolOp .Or (b :: es) pos) ρ μ (Bb l) μ) : EV X (.BoolOp .Or (a :: b :: es) pos) ρ μ (Bb (k || l)) μ := by
  cases k with
  | false => exact EV.or h (fun z => by cases z) fun _ => by simpa using h2 rfl
  | true => exact EV.or h (fun _ => ⟨rfl, rfl⟩) fun z => by cases z
/-- if c: return ..; what follows -/
theorem ST.ifR (h : TV X c ρ μ k μ1) (h1 : k = true → ST X W n body ρ μ1 P) (h2 : k = false → ST X W n sts ρ μ1 P) (hP : ∀ ρ μ, P (.nx ρ μ) → False := by exact fun _ _ z => z) : ST X W n (.If c body [] pos :: sts) ρ μ P := by
  refine ST.iff h (fun hk => (h1 hk).mono fun o ho => ?_) fun hk => ST.nil (h2 hk)
  cases o with
  | nx ρ' μ' => exact (hP _ _ ho).elim
  | ret r m => exact ho
  | brk ρ' m => exact ho
  | ct ρ' m => exact ho
  | rse ρ' m C fs => exact ho
/-- the same where the way that returns is known not to be gone -/
theorem ST.ifNo (h : TV X c ρ μ k μ1) (hk : k = false) (h2 : ST X W n sts ρ μ1 P) : ST X W n (.If c body [] pos :: sts) ρ μ P := ST.iff h (fun z => by rw [hk] at z; cases z) fun _ => ST.nil h2
theorem ST.ifYes (h : TV X c ρ μ k μ1) (hk : k = true) (h1 : ST X W n body ρ μ1 P) (hP : ∀ ρ μ, P (.nx ρ μ) → False := by exact fun _ _ z => z) : ST X W n (.If c body [] pos :: sts) ρ μ P := ST.ifR h (fun _ => h1) (fun z => by rw [hk] at z; cases z) hP
theorem ST.retP {r : Ent} {r' : Ent} {ν : Sto} (h : EV X e ρ μ r' ν) (e1 : frz n ν r' = r) (e2 : ν.take n = μ2 := by simp) : ST X W n (.Return (some e) pos :: sts) ρ μ (PostR r μ2) := ST.ret h ⟨e1, e2⟩
end
theorem post_no {r : Ent} {μ : Sto} {ρ : REnv} {ν : Sto} (h : r ≠ Nn) : Post r μ (.nx ρ ν) → False := fun z => h z.1
def isIntL : PyData → Bool
  | .bool _ => true
  | .int _ => true
  | _ => false
theorem kit_int_NoneType : kitB "NoneType" "int" = some false := by decide +kernel
theorem kit_int_bool : kitB "bool" "int" = some true := by decide +kernel
theorem kit_int_int : kitB "int" "int" = some true := by decide +kernel
theorem kit_int_str : kitB "str" "int" = some false := by decide +kernel
theorem kit_int_list : kitB "list" "int" = some false := by decide +kernel
theorem kit_int_tuple : kitB "tuple" "int" = some false := by decide +kernel
theorem kit_int_dict : kitB "dict" "int" = some false := by decide +kernel
theorem kit_int (d : PyData) : kitB (tyD d) "int" = some (isIntL d) := by
  cases d
  · exact kit_int_NoneType
  · exact kit_int_bool
  · exact kit_int_int
  · exact kit_int_str
  · exact kit_int_list
  · exact kit_int_tuple
  · exact kit_int_dict
def isBoolL : PyData → Bool
  | .bool _ => true
  | _ => false
theorem kit_bool_NoneType : kitB "NoneType" "bool" = some false := by decide +kernel
theorem kit_bool_bool : kitB "bool" "bool" = some true := by decide +kernel
theorem kit_bool_int : kitB "int" "bool" = some false := by decide +kernel
theorem kit_bool_str : kitB "str" "bool" = some false := by decide +kernel
theorem kit_bool_list : kitB "list" "bool" = some false := by decide +kernel
theorem kit_bool_tuple : kitB "tuple" "bool" = some false := by decide +kernel
theorem kit_bool_dict : kitB "dict" "bool" = some false := by decide +kernel
theorem kit_bool (d : PyData) : kitB (tyD d) "bool" = some (isBoolL d) := by
  cases d
  · exact kit_bool_NoneType
  · exact kit_bool_bool
  · exact kit_bool_int
  · exact kit_bool_str
  · exact kit_bool_list
  · exact kit_bool_tuple
  · exact kit_bool_dict
def isStrL : PyData → Bool
  | .str _ => true
  | _ => false
theorem kit_str_NoneType : kitB "NoneType" "str" = some false := by decide +kernel
theorem kit_str_bool : kitB "bool" "str" = some false := by decide +kernel
theorem kit_str_int : kitB "int" "str" = some false := by decide +kernel
theorem kit_str_str : kitB "str" "str" = some true := by decide +kernel
theorem kit_str_list : kitB "list" "str" = some false := by decide +kernel
theorem kit_str_tuple : kitB "tuple" "str" = some false := by decide +kernel
theorem kit_str_dict : kitB "dict" "str" = some false := by decide +kernel
theorem kit_str (d : PyData) : kitB (tyD d) "str" = some (isStrL d) := by
  cases d
  · exact kit_str_NoneType
  · exact kit_str_bool
  · exact kit_str_int
  · exact kit_str_str
  · exact kit_str_list
  · exact kit_str_tuple
  · exact kit_str_dict
def isTupleL : PyData → Bool
  | .tuple _ => true
  | _ => false
theorem kit_tuple_NoneType : kitB "NoneType" "tuple" = some false := by decide +kernel
theorem kit_tuple_bool : kitB "bool" "tuple" = some false := by decide +kernel
theorem kit_tuple_int : kitB "int" "tuple" = some false := by decide +kernel
theorem kit_tuple_str : kitB "str" "tuple" = some false := by decide +kernel
theorem kit_tuple_list : kitB "list" "tuple" = some false := by decide +kernel
theorem kit_tuple_tuple : kitB "tuple" "tuple" = some true := by decide +kernel
theorem kit_tuple_dict : kitB "dict" "tuple" = some false := by decide +kernel
theorem kit_tuple (d : PyData) : kitB (tyD d) "tuple" = some (isTupleL d) := by
  cases d
  · exact kit_tuple_NoneType
  · exact kit_tuple_bool
  · exact kit_tuple_int
  · exact kit_tuple_str
  · exact kit_tuple_list
  · exact kit_tuple_tuple
  · exact kit_tuple_dict
section
variable {X : Cx} {W : WX} {ρ : REnv} {μ μ1 μ2 : Sto} {a b c e : Expr} {es rest : List Expr} {pos : Pos} {k l : Bool} {z : Ent} {n : Nat} {sts body orelse : List Stmt} {P : Out → Prop}
theorem WV.orT (h : TV X a ρ μ k μ1) (hk : k = true := by rfl) : WV X (.BoolOp .Or (a :: b :: es) pos) ρ μ true μ1 := WV.or h (fun _ => ⟨rfl, rfl⟩) fun z => by rw [hk] at z; cases z
theorem WV.orF (h : TV X a ρ μ k μ1) (h2 : WV X (.BoolOp .Or (b :: es) pos) ρ μ1 l μ2) (hk : k = false := by rfl) : WV X (.BoolOp .Or (a :: b :: es) pos) ρ μ l μ2 := WV.or h (fun z => by rw [hk] at z; cases z) fun _ => h2
theorem WV.andF (h : TV X a ρ μ k μ1) (hk : k = false := by rfl) : WV X (.BoolOp .And (a :: b :: es) pos) ρ μ false μ1 := WV.and h (fun _ => ⟨rfl, rfl⟩) fun z => by rw [hk] at z; cases z
theorem WV.andT (h : TV X a ρ μ k μ1) (h2 : WV X (.BoolOp .And (b :: es) pos) ρ μ1 l μ2) (hk : k = true := by rfl) : WV X (.BoolOp .And (a :: b :: es) pos) ρ μ l μ2 := WV.and h (fun z => by rw [hk] at z; cases z) fun _ => h2
theorem EV.orT (h : EV X a ρ μ (Bb k) μ1) (hk : k = true := by rfl) : EV X (.BoolOp .Or (a :: b :: es) pos) ρ μ (Bb true) μ1 := EV.or h (fun _ => ⟨rfl, rfl⟩) fun z => by rw [hk] at z; cases z
theorem EV.orF (h : EV X a ρ μ (Bb k) μ1) (h2 : EV X (.BoolOp .Or (b :: es) pos) ρ μ1 z μ2) (hk : k = false := by rfl) : EV X (.BoolOp .Or (a :: b :: es) pos) ρ μ z μ2 := EV.or h (fun z => by rw [hk] at z; cases z) fun _ => h2
theorem EV.andF (h : EV X a ρ μ (Bb k) μ1) (hk : k = false := by rfl) : EV X (.BoolOp .And (a :: b :: es) pos) ρ μ (Bb false) μ1 := EV.and h (fun _ => ⟨rfl, rfl⟩) fun z => by rw [hk] at z; cases z
theorem EV.andT (h : EV X a ρ μ (Bb k) μ1) (h2 : EV X (.BoolOp .And (b :: es) pos) ρ μ1 z μ2) (hk : k = true := by rfl) : EV X (.BoolOp .And (a :: b :: es) pos) ρ μ z μ2 := EV.and h (fun z => by rw [hk] at z; cases z) fun _ => h2
end
theorem sz {n : Nat} (h : n ≤ 1000000) : n ≤ sizeLine := Nat.le_trans h (by decide)
theorem sz2 {n : Nat} (h : n ≤ 1000000) : n + 2 ≤ sizeLine := Nat.le_trans (Nat.add_le_add_right h 2) (by decide)
theorem log_small {i : Int} (h : i.natAbs < 2 ^ 1000) : i.natAbs.log2 < 1920 := by
  by_cases hz : i.natAbs = 0
  · rw [hz]; decide
  · exact Nat.lt_of_lt_of_le ((Nat.log2_lt hz).mpr h) (by decide)
theorem map_bool {α : Type} (l : List α) (f : α → Bool) (g : α → PyData) (h : ∀ a ∈ l, g a = .bool (f a)) : l.map g = (l.map f).map .bool := by
  rw [List.map_map]
  exact List.map_congr_left h
theorem at_nat {α : Type} {xs : List α} {i : Nat} {x : α} (h : xs[i]? = some x) : atI xs (i : Int) = some x := by
  have hl := (List.getElem?_eq_some_iff.mp h).1
  unfold atI ixN
  rw [if_pos (by omega), if_pos (by omega)]
  simpa using h
def sgn1 (f : Nat → Bool) : PyData → PyData
  | .str s => .bool (f (s.cps.toList.headD 0))
  | d => d
theorem sgn1_map (f : Nat → Bool) (s : Str) : (strD s).map (sgn1 f) = (s.cps.toList.map f).map .bool := by
  unfold strD
  rw [List.map_map, List.map_map]
  exact List.map_congr_left fun c _ => rfl
end J
/-! J8: [e for a in xs for b in ys], without tests, the store as it is. -/
namespace J
open PySem PySem.Spec
open PyProof.Rows L2
variable [KC]
theorem yes_if {σ : L2.St} {H : Hp} {A B : Hp → Prop} (h : A H) : tYes σ H (fun b H => if b = true then A H else B H) := by
  show (if true = true then A H else B H)
  rw [if_pos rfl]
  exact h
def iC (X : Cx) (scope : Scope) (tg it : Expr) : TI := fun σ H R => ∀ s H0 C cl fp, IX (blkX X scope s H0 C cl fp) tg it σ H R
section
variable {X : Cx} {ρ : REnv} {μ μ1 : Sto} {tg iter tg1 iter1 elt : Expr} {pos : Pos} {ds : List PyData}
theorem pi_C {scope : Scope} (s : Shared) (H : Hp) (C : Addr) (cl : List (Str × Addr)) (fp : List Addr) : PI (X.blk s H scope (compEnvC scope cl C X.env) fp) tg1 iter1 (iC X scope tg1 iter1) :=
  ⟨fun pins s1 σ H1 Q I h => (p_ix (X := blkX X scope s H C cl fp) (tg := tg1) (e := iter1)).run pins s1 σ H1 Q I (h s H C cl fp)⟩
theorem wipe_wipe (vs : List Nat) (σ : L2.St) : wipe (wipe σ vs) vs = wipe σ vs := by
  have aux : ∀ (us : List Nat) (σ : L2.St), (∀ u ∈ us, u ∈ vs) → wipe (wipe σ us) vs = wipe σ vs := by
    intro us
    induction us with
    | nil => intro σ _; rfl
    | cons u us ih =>
      intro σ hu
      show wipe ((wipe σ us).set u none) vs = wipe σ vs
      rw [wipe_set _ _ _ _ (hu u List.mem_cons_self)]
      exact ih σ fun z hz => hu z (List.mem_cons_of_mem _ hz)
  exact aux vs σ fun u h => h
/-- between two turns: D holds acc, all else that was there is there -/
structure Mid (K : PySem.W.Frag) (w : Wd) (D : Addr) (H1 : Hp) (μ : Sto) (acc : List PyData) (H : Hp) : Prop where
  mem : Mem K H (wk' w D) μ
  keep : ∀ b o, H1 b = some o → b ∉ w.α → Nt o → H b = some o
  at_ : ∃ vs, H D = some (.lst vs) ∧ DqAll (dl H (wk' w D).all) vs acc
theorem Mid.fr {K : PySem.W.Frag} {w : Wd} {D : Addr} {H1 H H' : Hp} {acc : List PyData} (h : Mid K w D H1 μ acc H) (f : Fr w.α H H') (m : Mem K H' (wk' w D) μ) : Mid K w D H1 μ acc H' := by
  obtain ⟨vs, e, hd⟩ := h.at_
  exact ⟨m, fun b o e hb nt => f b o (h.keep b o e hb nt) hb nt, vs, f D _ e (h.mem.out D List.mem_cons_self) (fun q z => by cases z), dqAll_mono (Fr.all (w := wk' w D) f) _ _ hd⟩
theorem LCV2.evf {scope : Scope} {own : List (Str × Nat)} {vs1 : List Nat} (F : PyData → List PyData) (f : PyData → PyData → PyData) (hi : IV X tg iter ρ μ ds μ1) (hc : X.calm = true) (hN : X.N.Nodup) (ok : BlkOk X.N X.env.scope scope own) (hv : ∀ i ∈ vs1, i ∈ own.map (·.2))
    (hs : ∀ d ∈ ds, ∃ ρ', (∀ s H C cl fp, GV (blkX X scope s H C cl fp) tg d (wipeE ρ (own.map (·.2))) ρ' (own.map (·.2))) ∧ (∀ s H C cl fp, IV (blkX X scope s H C cl fp) tg1 iter1 ρ' μ1 (F d) μ1) ∧
      ∀ e ∈ F d, ∃ ρ2, (∀ s H C cl fp, GV (blkX X scope s H C cl fp) tg1 e (wipeE ρ' vs1) ρ2 vs1) ∧ ∀ s H C cl fp, EV (blkX X scope s H C cl fp) elt ρ2 μ1 (.dat (f d e)) μ1)
    (hl : ∀ n, ((ds.take n).flatMap fun d => (F d).map (f d)).length ≤ 100000) (hl2 : ∀ n, ∀ d ∈ ds, ∀ m, ((ds.take n).flatMap fun d => (F d).map (f d)).length + m ≤ 100000 ∨ (F d).length < m)
    (hst : ∀ x, foldedSetIterable iter X.env x = pure x := by intro _; rfl) (hst1 : ∀ env x, foldedSetIterable iter1 env x = pure x := by intro _ _; rfl) :
    EVF X (.ListComp elt [⟨tg, iter, [], 0⟩, ⟨tg1, iter1, [], 0⟩] scope pos) ρ μ (ds.flatMap fun d => (F d).map (f d)) μ1 := by
  intro w σ H m s Q q
  refine ⟨_, pe_lc2 hc hN (p_ix (tg := tg) (e := iter)) ok hv pg_C (fun _ _ _ _ _ => pts_nil) pi_C pg_C (fun _ _ _ _ _ => pts_nil) pe_C hst hst1, ?_⟩
  refine hi w σ H m s _ fun J H1 m1 f1 wk => ?_
  intro D hD
  have hD0 : Nw H D := Nw.back f1 (Nw.of hD) (m1.fresh hD)
  refine ⟨fun i n H2 => n = ds.length - i ∧ i ≤ ds.length ∧ Mid X.K w D H1 μ1 ((ds.take i).flatMap fun d => (F d).map (f d)) H2, ⟨ds.length, by simp, Nat.zero_le _, m1.keep hD, fun b o e hb _ => ?_, [], upd_same, by simpa using DqAll.nil⟩, ?_⟩
  · rw [upd_ne (ne_of_none e hD)]
    exact e
  rintro i n H2 ⟨rfl, hi', M2⟩
  obtain ⟨vs, e2, hd2⟩ := M2.at_
  have m2 := M2.mem
  have g12 : Same (dl H1 w.all) (dl H2 (wk' w D).all) := keep_out (K := X.K) hD M2.keep ⟨_, e2⟩
  have g12' : Same (dl H1 w.all) H2 := g12.trans dl_same
  by_cases hlt : i < ds.length
  · obtain ⟨d, hdi⟩ : ∃ d, ds[i]? = some d := ⟨ds[i], by simp [hlt]⟩
    have hdm : d ∈ ds := List.mem_iff_getElem?.mpr ⟨i, hdi⟩
    have tk : (ds.take (i + 1)).flatMap (fun d => (F d).map (f d)) = (ds.take i).flatMap (fun d => (F d).map (f d)) ++ (F d).map (f d) := by
      rw [List.take_succ, hdi]
      simp
    obtain ⟨go, yl⟩ := wk.go H2 g12' i d hdi
    refine .inr ⟨go, fun H' => Mid X.K w D H1 μ1 ((ds.take (i + 1)).flatMap fun d => (F d).map (f d)) H', fun H' h => ⟨ds.length - (i + 1), by omega, rfl, hlt, h⟩, fun x H3 y3 => ?_⟩
    obtain ⟨s23, dx⟩ := yl x H3 y3
    have dx3 : Dq (dl H3 (wk' w D).all) x d := dx _ g12 fun b hb => (all_wk'.mp hb).elim (fun z => z ▸ ⟨_, e2⟩) fun hb => (List.mem_append.mp hb).elim (fun z => (m2.there z).elim fun vs e => ⟨_, e⟩) fun z => m2.ex1 (List.mem_cons_of_mem _ z)
    have M3 : Mid X.K w D H1 μ1 _ H3 := M2.fr (Fr.of_same s23) (m2.same s23)
    have sl3 : Sl X.K H3 (wk' w D) (wipe σ (own.map (·.2))) (wipeE ρ (own.map (·.2))) := (sl_wipe ((s.fr f1).same2 g12) _).fr (w := wk' w D) (Fr.of_same s23)
    obtain ⟨ρ', hgv, hiv, hel⟩ := hs d hdm
    intro s' H0 C cl fp
    refine hgv s' H0 C cl fp _ _ H3 μ1 x M3.mem sl3 dx3 _ fun σ4 sl4 ew => ⟨ew.trans (wipe_wipe _ σ), ?_⟩
    refine yes_if ?_
    intro s' H0 C cl fp
    refine hiv s' H0 C cl fp (wk' w D) σ4 H3 M3.mem sl4 _ fun J1 H4 m4 f34 wk1 => ?_
    have M4 : Mid X.K w D H1 μ1 _ H4 := M3.fr f34 m4
    have sl44 : Sl X.K H4 (wk' w D) σ4 ρ' := sl4.fr f34
    refine ⟨fun j k H5 => k = (F d).length - j ∧ j ≤ (F d).length ∧ Mid X.K w D H1 μ1 ((ds.take i).flatMap (fun d => (F d).map (f d)) ++ ((F d).take j).map (f d)) H5 ∧ Fr w.α H4 (fun b => if b = D then H4 D else H5 b), ⟨(F d).length, by simp, Nat.zero_le _, by simpa using M4, fun b o e hb _ => ?_⟩, ?_⟩
    · by_cases z : b = D
      · subst z; simpa using e
      · simpa [z] using e
    rintro j k H5 ⟨rfl, hj', M5, f45⟩
    obtain ⟨us, e5, hd5⟩ := M5.at_
    have m5 := M5.mem
    have g45 : Same (dl H4 (wk' w D).all) (dl H5 (wk' w D).all) := fun b o hb => by
      have nt := dl_nt hb
      obtain ⟨n1, e1⟩ := dl_some hb
      have nD : b ≠ D := fun z => n1 (all_wk'.mpr (.inl z))
      have := f45 b o e1 (fun z => n1 (List.mem_append_left _ z)) nt
      have h2 : (if b = D then H4 D else H5 b) = some o := this
      rw [if_neg nD] at h2
      exact dl_of n1 h2 nt
    have sl5 : Sl X.K H5 (wk' w D) σ4 ρ' := sl44.same g45
    by_cases hjt : j < (F d).length
    · obtain ⟨e, hej⟩ : ∃ e, (F d)[j]? = some e := ⟨(F d)[j], by simp [hjt]⟩
      have hem : e ∈ F d := List.mem_iff_getElem?.mpr ⟨j, hej⟩
      obtain ⟨go1, yl1⟩ := wk1.go H5 (g45.trans dl_same) j e hej
      refine .inr ⟨go1, fun H' => Mid X.K w D H1 μ1 ((ds.take i).flatMap (fun d => (F d).map (f d)) ++ ((F d).take (j + 1)).map (f d)) H' ∧ Fr w.α H4 (fun b => if b = D then H4 D else H' b), fun H' h => ⟨(F d).length - (j + 1), by omega, rfl, hjt, h⟩, fun x1 H6 y6 => ?_⟩
      obtain ⟨s56, dx1⟩ := yl1 x1 H6 y6
      have dx6 : Dq (dl H6 (wk' w D).all) x1 e := dx1 _ g45 fun b hb => (all_wk'.mp hb).elim (fun z => z ▸ ⟨_, e5⟩) fun hb => (List.mem_append.mp hb).elim (fun z => (m5.there z).elim fun vs e => ⟨_, e⟩) fun z => m5.ex1 (List.mem_cons_of_mem _ z)
      have M6 : Mid X.K w D H1 μ1 _ H6 := M5.fr (Fr.of_same s56) (m5.same s56)
      have sl6 : Sl X.K H6 (wk' w D) (wipe σ4 vs1) (wipeE ρ' vs1) := (sl_wipe sl5 _).fr (w := wk' w D) (Fr.of_same s56)
      obtain ⟨ρ2, hg2, hev⟩ := hel e hem
      intro s' H0 C cl fp
      refine hg2 s' H0 C cl fp _ _ H6 μ1 x1 M6.mem sl6 dx6 _ fun σ7 sl7 ew1 => ⟨ew1.trans (wipe_wipe _ σ4), ?_⟩
      refine yes_if ?_
      intro s' H0 C cl fp
      refine hev s' H0 C cl fp (wk' w D) σ7 H6 M6.mem sl7 _ fun v H8 m8 f68 hv => ?_
      have M8 : Mid X.K w D H1 μ1 _ H8 := M6.fr f68 m8
      obtain ⟨us8, e8, hd8⟩ := M8.at_
      refine ⟨us8, e8, ?_, ⟨m8.outs, fun b o e hb nt => ?_, us8 ++ [v], upd_same, ?_⟩, fun b o e hb nt => ?_⟩
      · rw [dqAll_len hd8, List.length_append, List.length_map, List.length_take]
        rcases hl2 i d hdm (j + 1) with z | z
        · have : min j (F d).length = j := by omega
          rw [this]
          exact Nat.lt_of_lt_of_le (Nat.lt_of_succ_le z) (by decide)
        · omega
      · rw [upd_ne (ne_of_none e hD)]
        exact M8.keep b o e hb nt
      · have t2 : ((F d).take (j + 1)).map (f d) = ((F d).take j).map (f d) ++ [f d e] := by
          rw [List.take_succ, hej]
          simp
        rw [t2, ← List.append_assoc]
        exact dqAll_append (dqAll_mono same_outs _ _ hd8) (.cons (dq_mono same_outs _ _ hv) .nil)
      · by_cases z : b = D
        · subst z; simpa using e
        · simp only [z, if_false, upd_ne z]
          have := f45 b o e hb nt
          have h2 : (if b = D then H4 D else H5 b) = some o := this
          rw [if_neg z] at h2
          exact f68 b o (s56 _ _ h2) hb nt
    · have ej : j = (F d).length := by omega
      subst ej
      refine .inl ⟨wk1.stop H5 (g45.trans dl_same), ?_⟩
      rw [List.take_length] at M5
      show Mid X.K w D H1 μ1 _ H5
      rw [tk]
      exact M5
  · have ei : i = ds.length := by omega
    subst ei
    rw [List.take_length] at M2 hd2
    exact .inl ⟨wk.stop H2 g12', q D H2 vs m2 (f1.trans M2.keep) hD0 e2 hd2⟩
end
end J
/-! J9: enumerate over a tuple. -/
namespace PySem
open Sem (wp)
open AutoSeq1 (wpAny_loadPart')
/-- enumerate.__new__ of a tuple (any object of that type) -/
theorem jEnumNew (l : Addr) (items : Array Value) (n : Nat) (oc : Value) (dct : Option Addr) (sl : Array (Option Value)) :
    Meets (Builtin.«enumerate.__new__» ⟨[.type "enumerate", .ref l], []⟩) fun _ R s =>
      s.heap.get? l = some { cls := .type "tuple", dict := dct, data := .seq items n, slots := sl } ∧
      R (.ok (.ret (.ref (s.heap.push { cls := .type "tuple_iterator", data := .fields #[.ref l, .int 0 0] }).objs.size)))
        { s with heap := (s.heap.push { cls := .type "tuple_iterator", data := .fields #[.ref l, .int 0 0] }).push ({ cls := .type "enumerate", data := .fields #[.none, .bool false, .ref s.heap.objs.size, rawInt 0, .none, .none] } : Obj) } :=
  .of_wp fun prog w A R s hh => by
    obtain ⟨hp, gs, dr, tt, os⟩ := s
    obtain ⟨hl, hR⟩ := hh
    have hs1 := sub_enumerate
    have hT : Heap.IsTuple (Shared.heap ⟨hp, gs, dr, tt, os⟩) l items := ⟨_, hl, rfl, n, rfl⟩
    wp_walk using wpAny_loadPart' hl
    refine wpAny_stack_any fun _ => wpAny_pure ?_
    split
    · rename_i c _ _ _ _ _
      cases (c == Value.type "enumerate") <;> (wp_walk using wpAny_loadPart' hl, wpAny_pyIter_tuple hT; exact ⟨_, rfl, hR⟩)
    · wp_walk using wpAny_loadPart' hl, wpAny_pyIter_tuple hT
      exact ⟨_, rfl, hR⟩
section
variable {prog : Program} {w : World} {A : Around} {E : Value → Shared → Prop} {s : Shared}
theorem jEnumCall {l : Addr} {items : Array Value} {Q : Value → Shared → Prop} (hT : s.heap.IsTuple l items)
    (hq : ∀ g, IsEnum g (s.heap.objs.size + 1) s.heap.objs.size 0 .none → g.IsTupleIter s.heap.objs.size l 0 → (∀ b o, s.heap.get? b = some o → g.get? b = some o) → Q (.ref (s.heap.objs.size + 1)) { s with heap := g }) :
    wpAny (model prog w) A (call (.type "enumerate") [.ref l]) Q E s := by
  obtain ⟨⟨c, dct, dt, sl⟩, hl, hc, n, hd⟩ := hT
  obtain rfl : c = .type "tuple" := hc
  obtain rfl : dt = .seq items n := hd
  refine callType_new F.called_enumerate (by decide) (F.typeCall_enumerate_1 _) (F.newCall_enumerate_1 _) (fun ob => F.args_object_init_2 ob _) F.entry_enumerate_new (jEnumNew l items n .none dct sl) ⟨hl, ?_⟩
  have hz : (s.heap.push ({ cls := .type "tuple_iterator", data := .fields #[.ref l, .int 0 0] } : Obj)).objs.size = s.heap.objs.size + 1 := Heap.size_push ..
  show _ ∧ _
  rw [hz]
  have he := Heap.get?_push_size (s.heap.push ({ cls := .type "tuple_iterator", data := .fields #[.ref l, .int 0 0] } : Obj)) (o := { cls := .type "enumerate", data := .fields #[.none, .bool false, .ref s.heap.objs.size, rawInt 0, .none, .none] }) rfl
  rw [hz] at he
  exact ⟨⟨_, he, rfl⟩, hq _ he ⟨_, Heap.get?_push_of_some _ (Heap.get?_push_size _ rfl), rfl, rfl⟩ fun b o x => Heap.get?_push_of_some _ (Heap.get?_push_of_some _ x)⟩
end
end PySem
namespace J
open PySem PySem.Spec
open PyProof.Rows L2
variable [KC]
/-- the tuple at a, each item in a new pair -/
def ItT (K : PySem.W.Frag) (a : Addr) : It :=
  ⟨fun i H => ∃ (ys : List V) (y : V), SqT K H a ys ∧ ys[i]? = some y, fun i H v H' => ∃ T y, v = .ref T ∧ H T = none ∧ H' = upd H T (.tup [.int (i : Nat), y]) ∧ ∀ ys, SqT K H a ys → ys[i]? = some y, fun i H => ∃ ys : List V, SqT K H a ys ∧ ys.length = i⟩
theorem turn_enT {P : Program} {w : World} {K : PySem.W.Frag} {elts : List Expr} {kk : Nat} {tpos : Pos} (a e it : Addr) :
    Turn P w K (.Tuple elts kk tpos) (ItT K a) [e, it] e (fun i h => (∃ old, IsEnum h e it ((i : Nat) : Int) old) ∧ h.IsTupleIter it a i ∧ e ≠ it ∧ a ≠ it ∧ e ≠ a) := by
  refine ⟨by simp, fun i h st b hb => ?_, fun i h h' st k => ?_, ?_, ?_, fun A i s Q E st h => ?_⟩
  · obtain ⟨⟨old, he⟩, ⟨o, ho, hc, hd⟩, _⟩ := st
    rcases (by simpa using hb : b = e ∨ b = it) with rfl | rfl
    · exact ⟨_, he, fun v q => nomatch q⟩
    · exact ⟨o, ho, fun v q => by rw [hd] at q; cases q⟩
  · obtain ⟨⟨old, he⟩, hi, hne⟩ := st
    exact ⟨⟨old, k e (by simp) _ he⟩, hi.at fun o q => k it (by simp) o q, hne⟩
  · intro X hP hw hK hc i pins s σ H E I hf st hg
    subst hP hw hK
    obtain ⟨⟨old, he⟩, hit, hne, hai, hea⟩ := st
    obtain ⟨ys, y, hq, hy⟩ := hg
    obtain ⟨its, rv, tp, hz⟩ := I.tuple hq
    obtain ⟨u, hu, ru⟩ := rv.get hy
    have hel : e < s.heap.objs.size := Heap.lt_size he
    have hil : it < s.heap.objs.size := by
      obtain ⟨_, q, _⟩ := hit
      exact Heap.lt_size q
    have hlt : i < its.toArray.size := by
      have := (List.getElem?_eq_some_iff.mp hu).1
      simpa using this
    have D := Draws.tuple (prog := X.prog) (w := X.w) (A := X.A.in1) (I.ok.hd hc) it a hai its.toArray
    refine wpAny_pyNext_enum_itemD D he ⟨hit, tp⟩ hlt hne (by simp [hne, hea]) fun x h' tk hx ho hit' hT hsz hk => ?_
    have ex : x = u := by
      have h1 : its[i]? = some x := by simpa using hx
      rw [hu] at h1
      exact (Option.some.inj h1).symm
    subst ex
    refine ⟨_, rfl, wpAny_letOwnedTupleGo_enum (s := { s with heap := h', toks := tk + 1 }) ho fun h'' he' sb => ?_⟩
    have hT2 := (sb.2 _ (Nat.ne_of_gt hel)).trans hT
    have new : ObjOk X.prog X.w (upd H s.heap.objs.size (.tup [.int (i : Nat), y])) h'' s.heap.objs.size (.tup [.int (i : Nat), y]) :=
      ⟨by show 2 ≤ sizeLine; decide, [.int i tk, x], .cons ⟨_, rfl⟩ (.cons ru .nil), ⟨_, hT2, rfl, _, rfl⟩⟩
    have I1 : Inv X pins σ (upd H s.heap.objs.size (.tup [.int (i : Nat), y])) { s with heap := h'', toks := tk + 1 } :=
      I.turnedNew (ch := [e, it]) (fun b ob hb q => (sb.2 b fun z => hb (by simp [z])).trans (hk b ob (fun z => hb (by simp [z])) (fun z => hb (by simp [z])) q)) hf (Nat.le_refl _) new
    refine ⟨.ref s.heap.objs.size, _, I1, rfl, ⟨_, y, rfl, I.hok.fresh (Nat.le_refl _), rfl, fun zs hzs => by rw [I.tuple_inj hzs hq]; exact hy⟩, ⟨⟨x, ?_⟩, hit'.1.at fun o q => (sb.2 it (Ne.symm hne)).trans q, hne, hai, hea⟩, fun b hb => ?_⟩
    · have e1 : ((i + 1 : Nat) : Int) = (i : Int) + 1 := by omega
      rw [e1]
      exact he'
    · have hb' : b < s.heap.objs.size := by
        rcases (by simpa using hb : b = e ∨ b = it) with rfl | rfl
        · exact hel
        · exact hil
      rw [upd_ne (Nat.ne_of_lt hb')]
      exact (hf b hb).1
  · intro X hP hw hK hc i pins s σ H E I hf st hg
    subst hP hw hK
    obtain ⟨⟨old, he⟩, hit, hne, hai, hea⟩ := st
    obtain ⟨ys, hq, hy⟩ := hg
    obtain ⟨its, rv, tp, hz⟩ := I.tuple hq
    obtain ⟨f0, f1, f2, f3, f4, f5⟩ := hf it (by simp)
    have D := Draws.tuple (prog := X.prog) (w := X.w) (A := X.A.in1) (I.ok.hd hc) it a hai its.toArray
    have hn : its.toArray.size = i := by rw [List.size_toArray, ← rv.length, hy]
    refine wpAny_pyNext_enum_endD D he (by rw [hn]; exact ⟨hit, tp⟩) fun h' eb => ⟨rfl, I.turned (t' := s.toks) (fun b o hb q => eb b o hb q) f0 f1 f3 f4 f5⟩
  · obtain ⟨⟨_, he⟩, _⟩ := st
    exact wpAny_pyIter_enum he h
section
variable {X : Cx} {ρ : REnv} {μ μ1 : Sto} {e : Expr} {ds : List PyData} {p pos tpos : Pos} {elts : List Expr} {kk : Nat}
def iEnT (K : PySem.W.Frag) (ta : TA) : TI := fun σ H R => ta σ H fun vs H1 => ∃ a xs, vs = [.ref a] ∧ SqT K H1 a xs ∧ R (ItT K a) H1
theorem pi_enT {ta : TA} (hg : Gl X "enumerate") (hm : X.mg "enumerate" = none) (ha : PA X [e] ta) (hs : starEach [e] X.env = [(false, eval e X.env)]) : PI X (.Tuple elts kk tpos) (.Call (.Name "enumerate" p) [e] [] pos) (iEnT X.K ta) := by
  refine ⟨fun pins s σ H R I h => ?_⟩
  refine Call_ (ld_blt I hg hm boot_enumerate (PyProof.Rows.callWith_type1 (thn (ha.run pos pins s σ H _ I h) fun us s1 hh => ?_) hs rfl))
  obtain ⟨vs, H1, I1, r1, a, xs, rfl, hq, q⟩ := hh
  obtain ⟨u, rfl, ru⟩ := vals1 r1
  obtain rfl : u = Value.ref a := ru
  obtain ⟨its, rv, tp, hz⟩ := I1.tuple hq
  have hal : a < s1.heap.objs.size := by
    obtain ⟨o, ho, _⟩ := tp
    exact Heap.lt_size ho
  refine jEnumCall (show s1.heap.IsTuple a its.toArray from tp) fun h' he hit hk => wpAny_pyIter_enum he ?_
  have I2 : Inv X pins σ H1 { s1 with heap := h' } := I1.kept (t' := s1.toks) hk
  refine ⟨s1.heap.objs.size + 1, [s1.heap.objs.size + 1, s1.heap.objs.size], _, _, H1, rfl, I2, turn_enT a (s1.heap.objs.size + 1) s1.heap.objs.size, ⟨⟨.none, he⟩, hit, Nat.succ_ne_self _, Nat.ne_of_lt hal, ?_⟩, fun b hb => ?_, q⟩
  · exact Ne.symm (Nat.ne_of_lt (Nat.lt_succ_of_lt hal))
  · have hle : s1.heap.objs.size ≤ b := by
      rcases (by simpa using hb : b = s1.heap.objs.size + 1 ∨ b = s1.heap.objs.size) with z | z
      · rw [z]; exact Nat.le_add_right _ _
      · rw [z]; exact Nat.le_refl _
    exact I1.fpOk hle (I1.hok.fresh hle)
theorem IV.enumT (h : EV X e ρ μ (Tp ds) μ1) (hm : X.mg "enumerate" = none) (hg : Gl X "enumerate" := by rfl) (hs : starEach [e] X.env = [(false, eval e X.env)] := by rfl) :
    IV X (.Tuple elts kk tpos) (.Call (.Name "enumerate" p) [e] [] pos) ρ μ (enD 0 ds) μ1 := by
  intro w σ H m s R q
  refine ⟨_, pi_enT hg hm (pa_cons (p_ex (e := e)) pa_nil hs) hs, ?_⟩
  refine h w σ H m s _ fun v H1 m1 f1 h1 => ?_
  obtain ⟨c, vs, rfl, ha, hd⟩ := Dq.tupE m1.cst h1
  · refine ⟨_, _, rfl, ha _ dl_same, q _ H1 m1 f1 ⟨fun H2 st i d e => ?_, fun H2 st => ⟨vs, ha _ st, by rw [enD_len, dqAll_len hd]⟩⟩⟩
    obtain ⟨y, hy, rfl⟩ := enD_get e
    obtain ⟨u, hu, du⟩ := dqAll_get hd hy
    refine ⟨⟨vs, u, ha _ st, hu⟩, fun x H3 yy => ?_⟩
    obtain ⟨T0, x0, rfl, hT, rfl, hx⟩ := yy
    have e0 := hx vs (ha _ st)
    rw [hu] at e0
    cases e0
    refine ⟨Same.new hT, fun T st2 tr => ?_⟩
    have nT : T0 ∉ T := fun z => by
      obtain ⟨o, eo⟩ := tr T0 z
      rw [hT] at eo; cases eo
    have e1 : ((0 + i : Nat) : Int) = ((i : Nat) : Int) := by omega
    rw [e1]
    exact Dq.tup (dl_of nT upd_same) (.cons (.int _) (.cons (dq_mono (st2.trans (dl_new hT)) _ _ du) .nil))
end
end J
/-! J10: lists that change, stars, slices of such lists. -/
namespace J
open PySem PySem.Spec
open PyProof.Rows L2
variable [KC]
theorem u65 {k : Nat} {A : Around} (r : Room k A) : A.units + 65 < cLine := by
  have := r.un
  omega
section
variable {X : Cx} {ρ : REnv} {μ μ1 μ2 μ3 : Sto} {x y z r : Ent} {a b c e o : Expr} {es : List Expr} {pos p2 p apos cpos : Pos} {rs : List Ent} {ds out ys : List PyData} {d d2 : PyData} {i j : Int} {s t n : Str} {n0 : Nat}
theorem EV.slC {lo hi : Option Expr} {l h : Option Int} (ha : EV X a ρ μ (.ptr n0) μ1) (hl : PartV X lo ρ μ1 l μ2) (hh : PartV X hi ρ μ2 h μ3) (hn : μ3[n0]? = some ds) : EV X (.Subscript a (.Slice lo hi none p2) pos) ρ μ (Ls (cutD ds l h)) μ3 := by
  intro w σ H m s Q q
  refine ⟨_, pe_slice sl_list (p_ex (e := a)) (p_ox (e := lo)) (p_ox (e := hi)), ?_⟩
  refine ha w σ H m s _ fun v H1 m1 f1 h1 => ?_
  refine hl w σ H1 m1 (s.fr f1) _ fun H2 m2 f2 => ?_
  refine hh w σ H2 m2 ((s.fr f1).fr f2) _ fun H3 m3 f3 => ?_
  obtain ⟨a0, ha0, rfl⟩ := h1
  obtain ⟨vs, e, hd⟩ := m3.cell n0 a0 ds ha0 hn
  exact ⟨_, _, rfl, SqL.of e, new_lst m3 (dq_cut hd l h) fun v H4 m4 f4 h4 => q v H4 m4 (((f1.trans f2).trans f3).trans f4) h4⟩
theorem tNiL (ha : EV X a ρ μ (.dat d) μ1) (hb : EV X b ρ μ1 (Ls ds) μ2) (h1 : flatD d = true) (h2 : ds.all flatD = true) (hm : behindInMarks .NotIn b = false := by rfl) : TV X (.Compare a [.NotIn] [b] pos) ρ μ (!inD d ds) μ2 := TV.cmp op_notIn_seq hm ha hb (r2_inL (neg := true) h1 h2)
/-- a cell is stored anew -/
theorem Mem.put {K : PySem.W.Frag} {H : Hp} {w : Wd} {k : Nat} {a0 : Addr} {vs : List V} (m : Mem K H w μ) (ha : w.α[k]? = some a0) (hd : DqAll (dl H w.all) vs ds) : Mem K (upd H a0 (.lst vs)) w (μ.set k ds) ∧ Fr w.α H (upd H a0 (.lst vs)) := by
  have ham : a0 ∈ w.α := List.mem_iff_getElem?.mpr ⟨k, ha⟩
  have f : Fr w.α H (upd H a0 (.lst vs)) := fun b o e hb _ => by
    have nb : b ≠ a0 := fun z => hb (by rw [z]; exact ham)
    rw [upd_ne nb]
    exact e
  refine ⟨⟨m.cst, m.nd, by simp [m.len], fun j b xs h1 h2 => ?_, m.out, fun b hb => ?_, tabs_upd m.tab fun u e => ?_⟩, f⟩
  · by_cases hj : k = j
    · subst hj
      rw [ha] at h1
      cases h1
      have hk : k < μ.length := by
        rw [← m.len]
        exact (List.getElem?_eq_some_iff.mp ha).1
      rw [List.getElem?_set] at h2
      simp [hk] at h2
      subst h2
      exact ⟨vs, upd_same, dqAll_mono f.all _ _ hd⟩
    · rw [List.getElem?_set_ne hj] at h2
      obtain ⟨us, e, hd'⟩ := m.cell j b xs h1 h2
      refine ⟨us, ?_, dqAll_mono f.all _ _ hd'⟩
      have nb : b ≠ a0 := fun z => by
        subst z
        obtain ⟨hj1, e1⟩ := List.getElem?_eq_some_iff.mp h1
        obtain ⟨hk1, e2⟩ := List.getElem?_eq_some_iff.mp ha
        rcases Nat.lt_or_gt_of_ne hj with hlt | hlt
        · exact List.pairwise_iff_getElem.mp m.nd k j hk1 hj1 hlt (by rw [e1, e2])
        · exact List.pairwise_iff_getElem.mp m.nd j k hj1 hk1 hlt (by rw [e1, e2])
      rw [upd_ne nb]
      exact e
  · obtain ⟨o, e, po⟩ := m.ext b hb
    have nb : b ≠ a0 := fun z => m.out b hb (by rw [z]; exact ham)
    exact ⟨o, by rw [upd_ne nb]; exact e, po⟩
  · obtain ⟨us, e1⟩ := m.there ham
    rw [e] at e1
    cases e1
    exact ⟨(fun q z => by cases z), (fun q z => by cases z)⟩
theorem EV.app {k : Nat} (ho : EV X o ρ μ (.ptr k) μ1) (he : EV X e ρ μ1 (.dat d) μ2) (hk : μ2[k]? = some ds) (hl : ds.length ≤ 1000) (hbase : attributeBase o "append" X.env (eval o X.env) = eval o X.env := by rfl)
    (hfew : ((backTo cpos (starEach [e] X.env)).all (fun x => !x.1) && (backToKw cpos (keywordEach [] X.env)).all (fun x => x.1.isSome) && decide ([e].length + ([] : List Keyword).length + (if ([] : List Keyword).isEmpty then 0 else 1) < 30)) = true := by rfl)
    (hline : (apos.endLine == cpos.line) = true := by rfl) (hs : starEach [e] X.env = (false, eval e X.env) :: starEach [] X.env := by rfl) (hp : (backTo cpos (starEach [] X.env)).any (·.1) = false := by rfl) : EV X (.Call (.Attribute o "append" apos) [e] [] cpos) ρ μ Nn (μ2.set k (ds ++ [d])) := by
  intro w σ H m s Q q
  refine ⟨_, pe_bm PySem.F.plainAttrs_list PySem.F.slot_list_append PySem.F.type_list_append mt_append (p_ex (e := o)) (pa_cons (p_ex (e := e)) pa_nil hs) hbase hfew hline hs hp, ?_⟩
  refine ho w σ H m s _ fun v H1 m1 f1 h1 => ?_
  obtain ⟨a0, ha0, rfl⟩ := h1
  have hk1 : k < μ1.length := by
    rw [← m1.len]
    exact (List.getElem?_eq_some_iff.mp ha0).1
  obtain ⟨us, e1, _⟩ := m1.cell k a0 μ1[k] ha0 (by simp [hk1])
  refine ⟨.inl ⟨rfl, us, SqL.of e1⟩, ?_⟩
  refine he w σ H1 m1 (s.fr f1) _ fun u H2 m2 f2 h2 => ?_
  obtain ⟨vs, e2, hd⟩ := m2.cell k a0 ds ha0 hk
  obtain ⟨mm, ff⟩ := m2.put (ds := ds ++ [d]) (vs := vs ++ [u]) ha0 (dqAll_append hd (.cons h2 .nil))
  exact ⟨a0, vs, u, rfl, rfl, e2, by rw [dqAll_len hd]; exact small1000 hl, q _ _ mm ((f1.trans f2).trans ff) Dq.non⟩
/-- xs.pop(i) -/
theorem EV.pop {k : Nat} {jn : Nat} (ho : EV X o ρ μ (.ptr k) μ1) (he : EV X e ρ μ1 (Ii (jn : Int)) μ2) (hk : μ2[k]? = some ds) (hj : ds[jn]? = some d) (hl : ds.length ≤ 1000) (hsi : seqIndex? (jn : Int) ds.length = some jn) (hbase : attributeBase o "pop" X.env (eval o X.env) = eval o X.env := by rfl)
    (hfew : ((backTo cpos (starEach [e] X.env)).all (fun x => !x.1) && (backToKw cpos (keywordEach [] X.env)).all (fun x => x.1.isSome) && decide ([e].length + ([] : List Keyword).length + (if ([] : List Keyword).isEmpty then 0 else 1) < 30)) = true := by rfl)
    (hline : (apos.endLine == cpos.line) = true := by rfl) (hs : starEach [e] X.env = (false, eval e X.env) :: starEach [] X.env := by rfl) (hp : (backTo cpos (starEach [] X.env)).any (·.1) = false := by rfl) : EV X (.Call (.Attribute o "pop" apos) [e] [] cpos) ρ μ (.dat d) (μ2.set k (ds.eraseIdx jn)) := by
  intro w σ H m s Q q
  refine ⟨_, pe_bm PySem.F.plainAttrs_list PySem.F.slot_list_pop PySem.F.type_list_pop mt_popAt (p_ex (e := o)) (pa_cons (p_ex (e := e)) pa_nil hs) hbase hfew hline hs hp, ?_⟩
  refine ho w σ H m s _ fun v H1 m1 f1 h1 => ?_
  obtain ⟨a0, ha0, rfl⟩ := h1
  have hk1 : k < μ1.length := by
    rw [← m1.len]
    exact (List.getElem?_eq_some_iff.mp ha0).1
  obtain ⟨us, e1, _⟩ := m1.cell k a0 μ1[k] ha0 (by simp [hk1])
  refine ⟨.inl ⟨rfl, us, SqL.of e1⟩, ?_⟩
  refine he w σ H1 m1 (s.fr f1) _ fun u H2 m2 f2 h2 => ?_
  cases h2
  obtain ⟨vs, e2, hd⟩ := m2.cell k a0 ds ha0 hk
  obtain ⟨y, hy, dy⟩ := dqAll_get hd hj
  have he' : DqAll (dl H2 w.all) (vs.eraseIdx jn) (ds.eraseIdx jn) := by
    rw [List.eraseIdx_eq_take_drop_succ, List.eraseIdx_eq_take_drop_succ]
    exact dqAll_append (dqAll_take _ hd) (dqAll_drop _ hd)
  obtain ⟨mm, ff⟩ := m2.put (ds := ds.eraseIdx jn) (vs := vs.eraseIdx jn) ha0 he'
  have hjl := (List.getElem?_eq_some_iff.mp hj).1
  exact ⟨a0, vs, (jn : Int), jn, y, rfl, rfl, e2, by omega, by omega, by rw [dqAll_len hd]; exact hsi, hy, q _ _ mm ((f1.trans f2).trans ff) (dq_mono ff.all _ _ dy)⟩
/-- [.., *xs, ..] -/
theorem AV.star {sp : Pos} (h : EV X e ρ μ (Tp ds) μ1) (hr : AV X es ρ μ1 rs μ2) (hs : starEach (.Starred e sp :: es) X.env = (true, eval e X.env) :: starEach es X.env := by rfl) : AV X (.Starred e sp :: es) ρ μ (dats ds ++ rs) μ2 := by
  intro w σ H m s Q q
  refine ⟨_, StX.pa_star (p_ex (e := e)) (p_ax (e := es)) hs, ?_⟩
  refine h w σ H m s _ fun v H1 m1 f1 h1 => ?_
  obtain ⟨a0, xs, rfl, ha, hd⟩ := Dq.tupE m1.cst h1
  · refine ⟨a0, xs, rfl, .inl (ha _ dl_same), ?_⟩
    refine hr w σ H1 m1 (s.fr f1) _ fun vs H2 m2 f2 h2 => ?_
    have hv : ∀ (xs : List V) (ds : List PyData), DqAll (dl H2 w.all) xs ds → Vas X.K H2 w (xs ++ vs) (dats ds ++ rs) := by
      intro xs
      induction xs with
      | nil => intro ds h; cases h; exact h2
      | cons x xs ih =>
        intro ds h
        cases h with
        | cons h1 h3 => exact .cons (r := .dat _) h1 (ih _ h3)
    exact q _ H2 m2 (f1.trans f2) (hv xs ds (dqAll_mono f2.all _ _ hd))
end
end J
/-! J11: objects that do not change: fields, properties, methods, repr, str, bool. -/
namespace J
open PySem PySem.Spec
open PyProof.Rows L2
variable [KC]
section
variable {w : World} {P : Program} {K : PySem.W.Frag} {base : Heap} {mg : Str → Option Value}
/-- a def's promise by data, from its body; the name it is called by and its own -/
theorem fn_mk {x qual : Str} {st : Stmt} {f : Addr} {fd : FuncData} {N ps : List Str} {k : Nat} {C : Con} (F : Fun K x qual st f fd) (Sc : FnScope N ps (defScope st)) (hN : ps.length ≤ N.length) (hlen : ∀ rs μ r μ', C rs μ r μ' → rs.length = ps.length ∧ μ'.length = μ.length)
    (body : ∀ (cdv : Value) (A : Around) (outer : List Env) (s : Shared) (H : Hp) (E : XK), Room k (A.deeper (envOfC qual (defScope st) s.heap.objs.size f cdv)) → ∀ rs μ r μ', C rs μ r μ' →
      ST (cxOf CX0 P w K mg base N qual (defScope st) f cdv A outer s H E).nox W0 μ.length (defBody st) (rs.map some ++ List.replicate (N.length - rs.length) none) μ (PostR r μ')) : FnOk P w K mg base CX0 (k + 1) f fd ps (SpV K ps C) := by
  refine F.ok Sc (fun vs H Q E h => ?_) (fun cdv A outer s H vs Q E hr h => ?_)
  · obtain ⟨w0, μ, rs, r, μ', _, hv, hl, _⟩ := h
    rw [hv.1, hl]
  · obtain ⟨w0, μ, rs, r, μ', m, hv, hl, hC, q⟩ := h
    have hb := body cdv A outer s H E hr rs μ r μ' hC
    refine hb w0 _ H _ (Nat.le_of_eq m.len.symm) m (sl_start hv (by omega)) fun o ho => ?_
    have hw : w0.cut μ.length = w0 := by
      show (⟨w0.α.take μ.length, w0.ξ⟩ : Wd) = w0
      rw [← m.len, List.take_length]
    cases o with
    | ret r2 μ2 =>
      obtain ⟨rfl, rfl⟩ := ho
      intro v H' m' f hv'
      rw [hw] at m' hv'
      exact q v H' m' f hv'
    | nx ρ2 μ2 => exact False.elim ho
    | brk ρ2 μ2 => exact False.elim ho
    | ct ρ2 μ2 => exact False.elim ho
    | rse ρ2 μ2 C fs => exact False.elim ho
end
/-- a method: where it stands and what it promises -/
structure Mth (P : Program) (w : World) (K : PySem.W.Frag) (mg : Str → Option Value) (base : Heap) (C : Addr) (m : Str) (k : Nat) (ps : List Str) (c : Con) : Prop where
  ex : ∃ f fd, FnOk P w K mg base CX0 k f fd ps (SpV K ps c) ∧ Meth K C m f ∧ Binds K fd ps []
structure Prp (P : Program) (w : World) (K : PySem.W.Frag) (mg : Str → Option Value) (base : Heap) (C : Addr) (m : Str) (k : Nat) (c : Con) : Prop where
  ex : ∃ p f fd, FnOk P w K mg base CX0 k f fd ["self"] (SpV K ["self"] c) ∧ PropOf K C m p f ∧ Binds K fd ["self"] []
section
variable {X : Cx} {ρ : REnv} {μ μ1 μ2 μ3 : Sto} {x y z r : Ent} {a b c e o : Expr} {es : List Expr} {pos p2 p apos cpos : Pos} {rs : List Ent} {ds out ys : List PyData} {d d2 : PyData} {i j : Int} {s t n f m : Str} {C : Addr} {fs : List (Str × PyData)} {k : Nat} {ps : List Str} {cn : Con}
theorem lk_dq {H : Hp} : ∀ {ws : List (Str × V)} {fs : List (Str × PyData)}, ws.map (·.1) = fs.map (·.1) → DqAll H (ws.map (·.2)) (fs.map (·.2)) → fs.lookup f = some d → ∃ v, ws.lookup f = some v ∧ Dq H v d
  | [], fs, h1, h2, h3 => by
    cases fs with
    | nil => simp at h3
    | cons a as => simp at h1
  | (g, v) :: ws, [], h1, h2, h3 => by simp at h1
  | (g, v) :: ws, (g', e) :: fs, h1, h2, h3 => by
    simp at h1
    obtain ⟨rfl, h1⟩ := h1
    cases h2 with
    | cons ha hb =>
      rw [List.lookup_cons] at h3 ⊢
      cases hg : (f == g) with
      | true => rw [hg] at h3; cases h3; exact ⟨v, rfl, ha⟩
      | false => rw [hg] at h3; exact lk_dq h1 hb h3
theorem lk_none : ∀ {ws : List (Str × V)} {fs : List (Str × PyData)}, ws.map (·.1) = fs.map (·.1) → fs.lookup f = none → ws.lookup f = none
  | [], fs, h1, h3 => by simp
  | (g, v) :: ws, [], h1, h3 => by simp at h1
  | (g, v) :: ws, (g', e) :: fs, h1, h3 => by
    simp at h1
    obtain ⟨rfl, h1⟩ := h1
    rw [List.lookup_cons] at h3 ⊢
    cases hg : (f == g) with
    | true => rw [hg] at h3; cases h3
    | false => rw [hg] at h3; exact lk_none h1 h3
theorem EV.fld (ho : EV X o ρ μ (.obj C fs) μ1) (cl : Cls X.K C) (na : NoAttr X.K C f) (hl : fs.lookup f = some d) (hb : attributeBase o f X.env (eval o X.env) = eval o X.env := by rfl) : EV X (.Attribute o f pos) ρ μ (.dat d) μ1 := by
  intro w σ H m s Q q
  refine ⟨_, pe_fld (p_ex (e := o)) hb, ?_⟩
  refine ho w σ H m s _ fun v H1 m1 f1 h1 => ?_
  obtain ⟨x, dx, ws, rfl, hx, hn, hd⟩ := h1
  obtain ⟨u, hu, du⟩ := lk_dq hn hd hl
  exact ⟨x, C, dx, ws, u, rfl, (dl_some hx).2, cl, na, hu, q u H1 m1 f1 du⟩
theorem EV.prop (ho : EV X o ρ μ (.obj C fs) μ1) (cl : Cls X.K C) (hp : Prp X.prog X.w X.K X.mg X.base C f k cn) (hr : Room (k + 1) X.A) (hC : cn [.obj C fs] μ1 r μ2) (hb : attributeBase o f X.env (eval o X.env) = eval o X.env := by rfl) : EV X (.Attribute o f pos) ρ μ r μ2 := by
  intro w σ H m s Q q
  obtain ⟨p0, g, fd, F, po, bi⟩ := hp.ex
  refine ⟨_, pe_prop (E := E0) (p_ex (e := o)) cl po F hr bi .nil pass0 hb, ?_⟩
  refine ho w σ H m s _ fun v H1 m1 f1 h1 => ?_
  have h1' := h1
  obtain ⟨x, dx, ws, rfl, hx, hn, hd⟩ := h1
  exact ⟨x, dx, ws, rfl, (dl_some hx).2, w, μ1, _, r, μ2, m1, .cons h1' .nil, rfl, hC, fun v H' m2 f2 h2 => q v H' m2 (f1.trans f2) h2⟩
theorem EV.meth {pl : Sem Bool} (ho : EV X o ρ μ (.obj C fs) μ1) (cl : Cls X.K C) (hm : Mth X.prog X.w X.K X.mg X.base C m k ps cn) (hr : Room k X.A) (hl : fs.lookup m = none) (ha : AV X (e :: es) ρ μ1 rs μ2) (hC : cn (.obj C fs :: rs) μ2 r μ3) (hps : rs.length + 1 = ps.length := by rfl)
    (hst : starEach (e :: es) X.env = (false, eval e X.env) :: starEach es X.env := by rfl) (hpl : (backTo pos (starEach es X.env)).any (·.1) = false := by rfl)
    (ht : eval (.Call (.Attribute o m apos) (e :: es) [] pos) X.env = (do
      let ov ← eval o X.env
      standAt apos.atName
      let (f, first) ← holding [ov] (getMethod ov m pl)
      callWith pos f first (backTo pos (starEach (e :: es) X.env)) (backToKw pos (keywordEach [] X.env))) := by rfl) : EV X (.Call (.Attribute o m apos) (e :: es) [] pos) ρ μ r μ3 := by
  intro w σ H m0 s Q q
  obtain ⟨g, fd, F, me, bi⟩ := hm.ex
  refine ⟨_, pe_meth (E := E0) (pl := pl) (p_ex (e := o)) cl me F hr bi .nil pass0 (p_ax (e := e :: es)) hst hpl ht, ?_⟩
  refine ho w σ H m0 s _ fun v H1 m1 f1 h1 => ?_
  have h1' := h1
  obtain ⟨x, dx, ws, rfl, hx, hn, hd⟩ := h1
  refine ⟨x, dx, ws, rfl, (dl_some hx).2, lk_none hn hl, ?_⟩
  refine ha w σ H1 m1 (s.fr f1) _ fun vs H2 m2 f2 h2 => ?_
  exact ⟨w, μ2, .obj C fs :: rs, r, μ3, m2, by rw [List.append_nil]; exact (Vas.cons (r := .obj C fs) (h1'.fr f2) h2), (show (Ent.obj C fs :: rs).length = ps.length from hps), hC, fun v H' m3 f3 h3 => q v H' m3 ((f1.trans f2).trans f3) h3⟩
/-! repr, str, bool of such an object -/
structure Own (P : Program) (w : World) (K : PySem.W.Frag) (mg : Str → Option Value) (base : Heap) (C : Addr) (m : Str) (k : Nat) (cn : Con) : Prop where
  ex : ∃ f fd, FnOk P w K mg base CX0 k f fd ["self"] (SpV K ["self"] cn) ∧ PySem.W.findIn K (.ref C) m = some (some (.ref f)) ∧ PySem.W.isFn K (.ref f) = true ∧ Binds K fd ["self"] []
theorem ins_at {pins : List (Addr × Obj)} {σ : L2.St} {H : Hp} {s : Shared} {x dx : Addr} {ws : List (Str × V)} (I : Inv X pins σ H s) (h : H x = some (.ins C dx ws)) : ∃ od, PySem.W.InstAt s.heap x (PySem.W.instObj C dx) C (some od) := by
  obtain ⟨mA, O, _, _, _, _⟩ := ins_get I.hok h
  obtain ⟨od, J, _⟩ := O.look
  exact ⟨od, J⟩
/-- the call of such a def, one level below -/
theorem own_run {A : Around} {pins : List (Addr × Obj)} {σ : L2.St} {H : Hp} {s : Shared} {g x : Addr} {fd : FuncData} {sp : Sp} {Q : VK} {R : Value → Shared → Prop} {E' : Value → Shared → Prop} (F : FnOk X.prog X.w X.K X.mg X.base CX0 k g fd ["self"] sp) (hr : Room k A) (hf : A.frames = some X.stack) (bi : Binds X.K fd ["self"] []) (I : Inv X pins σ H s)
    (h : sp [.ref x] H Q E0) (hR : ∀ u s', EP X pins σ Q u s' → R u s') : wpAny (model X.prog X.w) A (call (.ref g) [.ref x]) R E' s := by
  have e0 := I.env0
  have e1 : Env0 X.prog X.w X.K X.mg X.base A X.stack s H := ⟨hf, e0.mod, e0.bs, e0.bsz, e0.funs, e0.frf, e0.hok, e0.bare⟩
  refine wpAny_call (codeAny_mono (F.run A X.stack s H ⟨[.ref x], []⟩ [.ref x] [.ref x] Q E0 hr e1 (bi s [.ref x] I.kIn rfl) (.cons rfl .nil) h) fun rr s' hq => ?_)
  cases rr with
  | error er => exact False.elim hq
  | ok fl =>
    cases fl with
    | ret u => exact hR u s' (I.after hq)
    | next => exact False.elim hq
    | brk => exact False.elim hq
    | cont => exact False.elim hq
theorem EV.reprO (T : X.mg "repr" = none) (ho : EV X o ρ μ (.obj C fs) μ1) (hm : Own X.prog X.w X.K X.mg X.base C "__repr__" k cn) (hr : Room (k + 1) X.A) (hC : cn [.obj C fs] μ1 (Ss t) μ2) (hg : Gl X "repr" := by rfl) (hs : starEach [o] X.env = (false, eval o X.env) :: starEach [] X.env := by rfl) : EV X (.Call (.Name "repr" p) [o] [] pos) ρ μ (Ss t) μ2 := by
  intro w σ H m s Q q
  obtain ⟨g, fd, F, hfi, hfn, bi⟩ := hm.ex
  have cr : CallR X (.builtin "repr") (fun vs H Q => ∃ x dx ws, vs = [V.ref x] ∧ H x = some (.ins C dx ws) ∧ SpV X.K ["self"] cn [.ref x] H (fun v H' => ∃ z, v = .str z ∧ Q v H') E0) := by
    intro pins s σ H xs us Q I r h
    obtain ⟨x, dx, ws, rfl, hx, hsp⟩ := h
    obtain ⟨u, rfl, ru⟩ := vals1 r
    obtain rfl : u = Value.ref x := ru
    obtain ⟨od, J⟩ := ins_at I hx
    obtain ⟨mm, Fr0⟩ := I.fr
    refine PySem.W.repr_K (by have := hr.un; show X.A.units + 1 < cLine; omega) Fr0 I.mod.kin J hfi hfn (own_run F hr.in1 I.ok.frames bi I hsp fun u s' hq => ?_)
    obtain ⟨v, H', I', rv, z, rfl, hq⟩ := hq
    obtain ⟨tk, rfl⟩ := rv
    exact ⟨.str z, H', I', ⟨tk, rfl⟩, hq⟩
  refine ⟨_, pe_callB cr hg T (by decide +kernel) (pa_cons (p_ex (e := o)) pa_nil hs) (by decide) (by decide) hs (by rfl), ?_⟩
  refine ho w σ H m s _ fun v H1 m1 f1 h1 => ?_
  have h1' := h1
  obtain ⟨x, dx, ws, rfl, hx, hn, hd⟩ := h1
  refine ⟨x, dx, ws, rfl, (dl_some hx).2, w, μ1, _, Ss t, μ2, m1, .cons h1' .nil, rfl, hC, fun v H' m2 f2 h2 => ?_⟩
  have h2' := h2
  cases h2
  exact ⟨t, rfl, q _ H' m2 (f1.trans f2) h2'⟩
theorem EV.strO (T : X.mg "str" = none) (ho : EV X o ρ μ (.obj C fs) μ1) (hm : Own X.prog X.w X.K X.mg X.base C "__str__" k cn) (hr : Room (k + 2) X.A) (hC : cn [.obj C fs] μ1 (Ss t) μ2) (hg : Gl X "str" := by rfl) (hs : starEach [o] X.env = (false, eval o X.env) :: starEach [] X.env := by rfl) : EV X (.Call (.Name "str" p) [o] [] pos) ρ μ (Ss t) μ2 := by
  intro w σ H m s Q q
  obtain ⟨g, fd, F, hfi, hfn, bi⟩ := hm.ex
  have cr : CallR X (.type "str") (fun vs H Q => ∃ x dx ws, vs = [V.ref x] ∧ H x = some (.ins C dx ws) ∧ SpV X.K ["self"] cn [.ref x] H (fun v H' => ∃ z, v = .str z ∧ Q v H') E0) := by
    intro pins s σ H xs us Q I r h
    obtain ⟨x, dx, ws, rfl, hx, hsp⟩ := h
    obtain ⟨u, rfl, ru⟩ := vals1 r
    obtain rfl : u = Value.ref x := ru
    obtain ⟨od, J⟩ := ins_at I hx
    refine PySem.W.kso_call (by have := hr.un; show X.A.units + 1 + 1 < cLine; omega) I.kIn J hfi hfn (own_run F (Room.in1 (Room.in1 hr)) I.ok.frames bi I hsp fun u s' hq => ?_)
    obtain ⟨v, H', I', rv, z, rfl, hq⟩ := hq
    obtain ⟨tk, rfl⟩ := rv
    exact ⟨.str z, H', I', ⟨tk, rfl⟩, hq⟩
  refine ⟨_, pe_callTy cr hg T (by decide +kernel) (pa_cons (p_ex (e := o)) pa_nil hs) (by decide) (by decide) hs (by rfl), ?_⟩
  refine ho w σ H m s _ fun v H1 m1 f1 h1 => ?_
  have h1' := h1
  obtain ⟨x, dx, ws, rfl, hx, hn, hd⟩ := h1
  refine ⟨x, dx, ws, rfl, (dl_some hx).2, w, μ1, _, Ss t, μ2, m1, .cons h1' .nil, rfl, hC, fun v H' m2 f2 h2 => ?_⟩
  have h2' := h2
  cases h2
  exact ⟨t, rfl, q _ H' m2 (f1.trans f2) h2'⟩

/-! making one: its only field is what is handed in -/
/-- the promise of an __init__ that keeps its argument under a name -/
def spInit (K : PySem.W.Frag) (C : Addr) (f : Str) (G : List PyData → Prop) : Sp := fun vs H Q _ => ∃ x dx v w μ ps, vs = [.ref x, v] ∧ H x = some (.ins C dx []) ∧ x ∈ w.ξ ∧ Mem K H w μ ∧ Val K H w v (Tp ps) ∧ G ps ∧
  ∀ H1, Mem K H1 w μ → Fr w.α H H1 → Val K H1 w v (Tp ps) → Q .non (upd H1 x (.ins C dx [(f, v)]))
structure Mak (P : Program) (w : World) (K : PySem.W.Frag) (mg : Str → Option Value) (base : Heap) (n : Str) (C : Addr) (f : Str) (k : Nat) (ps : List Str) (G : List PyData → Prop) : Prop where
  ex : ∃ g fd, FnOk P w K mg base CX0 k g fd ps (spInit K C f G) ∧ Mk K C g ∧ mg n = some (.ref C) ∧ Binds K fd ps []
theorem make_end {K : PySem.W.Frag} {H H1 : Hp} {w : Wd} {xx dx : Addr} {v : V} {ps : List PyData} {Q : VK} (m : Mem K H w μ) (hx : H xx = none) (hdx : H dx = none) (hne : dx ≠ xx)
    (q : ∀ u H', Mem K H' w μ → Fr w.α H H' → Val K H' w u (.obj C [(f, .tuple ps)]) → Q u H') (m1 : Mem K H1 (wk' w xx) μ) (f1 : Fr w.α (upd (upd H dx (.own xx)) xx (.ins C dx [])) H1) (h1 : Val K H1 (wk' w xx) v (Tp ps)) : Q (.ref xx) (upd H1 xx (.ins C dx [(f, v)])) := by
  have hxa : xx ∉ w.all := m.freshA hx
  have f2 : Fr w.α H (upd H1 xx (.ins C dx [(f, v)])) := fun b o e nb nt => by
    have b1 : b ≠ xx := ne_of_none e hx
    have b2 : b ≠ dx := ne_of_none e hdx
    rw [upd_ne b1]
    exact f1 b o (by rw [upd_ne b1, upd_ne b2]; exact e) nb nt
  have g : Same (dl H1 (wk' w xx).all) (dl (upd H1 xx (.ins C dx [(f, v)])) w.all) := same_outs.trans (dl_sub fun b hb => all_wk'.mpr (.inr hb))
  exact q _ _ m1.outs.unkeep f2 ⟨xx, dx, [(f, v)], rfl, dl_of hxa upd_same, rfl, .cons (dq_mono g _ _ h1) .nil⟩
/-- the new instance is kept out while its __init__ runs -/
theorem make_mem {K : PySem.W.Frag} {H : Hp} {w : Wd} {xx dx : Addr} {o o' : HO} (m : Mem K H w μ) (hx : H xx = none) (hdx : H dx = none) (hne : dx ≠ xx) (po : Pl o := by exact ⟨(fun q z => by cases z), (fun q z => by cases z)⟩) : Mem K (upd (upd H dx o') xx o) (wk' w xx) μ :=
  (m.same (Same.new hdx)).keep (by rw [upd_ne (Ne.symm hne)]; exact hx) po
theorem make_val {K : PySem.W.Frag} {H : Hp} {w : Wd} {xx dx : Addr} {o o' : HO} {v : V} {ps : List PyData} (h : Val K H w v (Tp ps)) (hx : H xx = none) (hdx : H dx = none) : Val K (upd (upd H dx o') xx o) (wk' w xx) v (Tp ps) := by
  have hS : Same H (upd (upd H dx o') xx o) := fun b u e => by
    rw [upd_ne (ne_of_none e hx), upd_ne (ne_of_none e hdx)]
    exact e
  exact dq_mono (keep_out (K := K) hx (Fr.of_same hS) ⟨_, upd_same⟩) _ _ h
theorem EV.make {G : List PyData → Prop} {gs : List PyData} (M : Mak X.prog X.w X.K X.mg X.base n C f k ps G) (hr : Room (k + 1) X.A) (ha : EV X e ρ μ (Tp gs) μ1) (hG : G gs) (hg : Gl X n := by rfl) (hs : starEach [e] X.env = (false, eval e X.env) :: starEach [] X.env := by rfl) (hdb : (n == ("__debug__" : Str)) = false := by decide)
    (hpl : (backTo pos (starEach [] X.env)).any (·.1) = false := by rfl) : EV X (.Call (.Name n p) [e] [] pos) ρ μ (.obj C [(f, .tuple gs)]) μ1 := by
  intro w σ H m s Q q
  obtain ⟨g, fd, F, mk, hm, bi⟩ := M.ex
  refine ⟨_, pe_make (E := E0) mk F hr hg hm bi .nil pass0 (pa_cons (p_ex (e := e)) pa_nil hs) hdb hs hpl, ?_⟩
  refine ha w σ H m s _ fun v H1 m1 f1 h1 => ?_
  intro x dx hx hdx hne
  refine ⟨x, dx, v, wk' w x, μ1, gs, rfl, upd_same, List.mem_cons_self, make_mem m1 hx hdx hne, make_val h1 hx hdx, hG, fun H2 m2 f2 h2 => ⟨rfl, ?_⟩⟩
  exact make_end (Q := Q) (v := v) m1 hx hdx hne (fun u H' mm ff hh => q u H' mm (f1.trans ff) hh) m2 f2 h2
end
end J
/-! J12: a tuple known to the object, for its methods: tuple([..]) and t.index(x). -/
namespace J
open PySem PySem.Spec
open PyProof.Rows L2
variable [KC]
theorem use_evf {X : Cx} {e : Expr} {ρ : REnv} {μ μ' : Sto} {xs : List PyData} {w : Wd} {σ : L2.St} {H : Hp} {Q : VK} (h : EVF X e ρ μ xs μ') (m : Mem X.K H w μ) (s : Sl X.K H w σ ρ)
    (q : ∀ p H' vs, Mem X.K H' (wk' w p) μ' → Fr w.α H H' → Nw H p → H' p = some (.lst vs) → DqAll (dl H' (wk' w p).all) vs xs → Q (.ref p) H') : EX X e σ H Q := h w σ H m s Q q
theorem use_ev {X : Cx} {e : Expr} {ρ : REnv} {μ μ' : Sto} {r : Ent} {w : Wd} {σ : L2.St} {H : Hp} {Q : VK} (h : EV X e ρ μ r μ') (m : Mem X.K H w μ) (s : Sl X.K H w σ ρ) (q : ∀ v H', Mem X.K H' w μ' → Fr w.α H H' → Val X.K H' w v r → Q v H') : EX X e σ H Q := h w σ H m s Q q
section
variable {X : Cx}
theorem call_tupleF : CallR X (.type "tuple") (fun xs H Q => ∃ p ys, xs = [.ref p] ∧ SqL X.K H p ys ∧ ∀ l o, H l = none → o.cls = .type "tuple" → o.dict = none → Q (.ref l) (upd H l (.frz o (.tup ys)))) := by
  intro pins s σ H xs us Q I r h
  obtain ⟨p, ys, rfl, hq, q⟩ := h
  obtain ⟨u, rfl, rx⟩ := vals1 r
  obtain rfl : u = Value.ref p := rx
  obtain ⟨its, r2, pl, hz⟩ := I.list hq
  have hl := r2.length
  refine call_tuple_list pl.isList (fun g kp => ?_) (by simp only [List.size_toArray] <;> omega)
  have I1 : Inv X pins σ H { s with heap := g } := I.kept (t' := s.toks) kp
  have ho : (g.push ({ cls := .type "tuple", data := .seq its.toArray } : Obj)).get? g.objs.size = some { cls := .type "tuple", data := .seq its.toArray } := Heap.get?_push_size _ rfl
  have I2 : Inv X pins σ (upd H g.objs.size (.frz { cls := .type "tuple", data := .seq its.toArray } (.tup ys))) { s with heap := g.push { cls := .type "tuple", data := .seq its.toArray } } :=
    I1.laid (t' := s.toks) (fun b o e => Heap.get?_push_of_some _ e) (Nat.le_refl _) ⟨ho, hz, its, r2, IsTup.new _ _⟩
  exact ⟨.ref g.objs.size, _, I2, rfl, q _ _ (I1.hok.fresh (Nat.le_refl _)) rfl rfl⟩
def tTix (r : V → List V → Hp → VK → Prop) (to te : TE) : TE := fun σ H Q => to σ H fun x H1 => (∃ p ob xs, x = .ref p ∧ H1 p = some (.frz ob (.tup xs)) ∧ ob.cls = .type "tuple" ∧ ob.dict = none) ∧ te σ H1 fun y H2 => r x [y] H2 Q
theorem pe_tix {id : String} {name : Str} {o e : Expr} {to te : TE} {r : V → List V → Hp → VK → Prop} {apos cpos : Pos} (slot : Slot "tuple" name id) (hty : typeOf (.builtin id) = pure (.type "method_descriptor")) (hm : MtR X id r) (ho : PE X o to) (he : PE X e te)
    (hbase : attributeBase o name X.env (eval o X.env) = eval o X.env := by rfl)
    (hfew : ((backTo cpos (starEach [e] X.env)).all (fun x => !x.1) && (backToKw cpos (keywordEach [] X.env)).all (fun x => x.1.isSome) && decide ([e].length + ([] : List Keyword).length + (if ([] : List Keyword).isEmpty then 0 else 1) < 30)) = true := by rfl)
    (hline : (apos.endLine == cpos.line) = true := by rfl) (hs : starEach [e] X.env = (false, eval e X.env) :: starEach [] X.env := by rfl) (hp : (backTo cpos (starEach [] X.env)).any (·.1) = false := by rfl) : PE X (.Call (.Attribute o name apos) [e] [] cpos) (tTix r to te) := by
  refine ⟨fun pins s σ H Q I h => ?_⟩
  refine wpAny_Call_method_late hbase hfew hline rfl (thn (ho.run pins s σ H _ I h) fun v s1 hh => ?_)
  obtain ⟨x, H1, I1, r1, ⟨p, ob, xs, rfl, hf, hc, hd⟩, q1⟩ := hh
  obtain rfl : v = Value.ref p := r1
  obtain ⟨g1, _⟩ : s1.heap.get? p = some ob ∧ _ := I1.hok p _ hf
  refine ⟨"tuple", id, PySem.F.plainAttrs_tuple, slot, hty, ⟨ob, g1, hc⟩, fun a ea => by cases ea; exact ⟨ob, g1, hd⟩, ?_⟩
  have hA := (pa_cons he pa_nil hs).run cpos pins s1 σ H1 (fun vs H2 => match vs with | [y] => r (.ref p) [y] H2 Q | _ => False) I1 q1
  rw [hs] at hA ⊢
  refine Calls.callWith_builtin (by show (false || (backTo cpos (starEach [] X.env)).any (·.1)) = false; rw [hp] <;> rfl) (Calls.evalArgs_plain ?_)
  refine thn hA fun us s2 hh => ?_
  obtain ⟨vs, H2, I2, r2, q2⟩ := hh
  match vs, r2, q2 with
  | [y], r2, q2 => exact hm pins s2 σ H2 (.ref p) [y] (.ref p) us Q I2 rfl r2 q2
end
end J
/-! J13: lists stored by place, targets that change a list, the script's items. -/
namespace J
open PySem PySem.Spec
open PyProof.Rows L2
variable [KC]
section
variable {X : Cx} {W : WX} {ρ ρ1 ρ2 : REnv} {μ μ1 μ2 μ3 : Sto} {a b c e o : Expr} {es tgs : List Expr} {pos p2 p apos cpos : Pos} {ds out : List PyData} {d : PyData} {i j : Int} {s t n : Str} {tg : Expr} {P : Out → Prop} {nn : Nat} {rest : List Stmt}
theorem scr_at {ns : List Int} {i : Nat} {v : Int} (h : ns[i]? = some v) : atI (ns.map V.int) (i : Int) = some (V.int v) := at_nat (by rw [List.getElem?_map, h]; rfl)
theorem ixScr {ns : List Int} {i : Nat} {v : Int} (ha : EV X a ρ μ (.scr ns) μ1) (hb : EV X b ρ μ1 (Ii (i : Int)) μ2) (h : ns[i]? = some v) (hs : PlainIx b := by exact fun _ _ => rfl) : EV X (.Subscript a b pos) ρ μ (Ii v) μ2 := by
  refine EV.ix ix_list ha hb (fun w H x y m h1 h2 Q q => ?_) hs
  obtain ⟨p, rfl, hsq⟩ := h1
  cases h2
  exact ⟨p, _, _, _, rfl, rfl, Same.seq dl_same hsq, scr_at h, q _ _ m .refl (Dq.int _)⟩
/-- a target that may change a list -/
def GW (X : Cx) (tg : Expr) (d : PyData) (ρ : REnv) (μ : Sto) (ρ' : REnv) (μ' : Sto) : Prop :=
  ∀ w σ H v, Mem X.K H w μ → Sl X.K H w σ ρ → Val X.K H w v (.dat d) → ∀ Q : L2.St → Hp → Prop, (∀ σ' H', Mem X.K H' w μ' → Fr w.α H H' → Sl X.K H' w σ' ρ' → Q σ' H') → GX X tg v σ H Q
def GsW (X : Cx) (tg : List Expr) (ds : List PyData) (ρ : REnv) (μ : Sto) (ρ' : REnv) (μ' : Sto) : Prop :=
  ∀ w σ H vs, Mem X.K H w μ → Sl X.K H w σ ρ → DqAll (dl H w.all) vs ds → ∀ Q : L2.St → Hp → Prop, (∀ σ' H', Mem X.K H' w μ' → Fr w.α H H' → Sl X.K H' w σ' ρ' → Q σ' H') → GsX X tg vs σ H Q
theorem GW.name {i : Nat} (hN : X.N.Nodup) (hi : X.N[i]? = some n) (hx : Loc X.env.scope n) (hf : X.fn n = true ∨ X.env.scope.names.lookup n = some .local := by first | exact .inl rfl | exact .inr rfl | assumption) : GW X (.Name n pos) d ρ μ (ρ.set i (some (.dat d))) μ := by
  intro w σ H v m s h Q q
  exact ⟨_, pg_name hN hi hx hf, q _ _ m .refl (s.set h)⟩
theorem GW.sub {k j : Nat} (ho : EV X o ρ μ (.ptr k) μ) (hi : EV X e ρ μ (Ii (j : Int)) μ) (hk : μ[k]? = some ds) (hj : j < ds.length)
    (hsub : ∀ v, assign (.Subscript o e pos) X.env v = (do
      let ov ← holding [v] (eval o X.env)
      let iv ← holding [v, ov] (eval e X.env)
      standAt pos
      holding [v, ov, iv] (setItem ov iv v)
      release [v, ov, iv] []) := by intro _; rfl) : GW X (.Subscript o e pos) d ρ μ ρ (μ.set k (ds.set j d)) := by
  intro w σ H v m s h Q q
  refine ⟨_, pg_sub (p_ex (e := o)) (p_ex (e := e)) set_list hsub, ?_⟩
  refine ho w σ H m s _ fun u H1 m1 f1 h1 => ?_
  obtain ⟨a0, ha0, rfl⟩ := h1
  refine hi w σ H1 m1 (s.fr f1) _ fun u H2 m2 f2 h2 => ?_
  cases h2
  obtain ⟨vs, e2, hd⟩ := m2.cell k a0 ds ha0 hk
  have hl := dqAll_len hd
  have hv2 : Dq (dl H2 w.all) v d := (h.fr f1).fr f2
  have hset : ∀ (vs : List V) (ds : List PyData) (j : Nat), DqAll (dl H2 w.all) vs ds → DqAll (dl H2 w.all) (vs.set j v) (ds.set j d) := by
    intro vs
    induction vs with
    | nil => intro ds j h; cases h; exact .nil
    | cons x xs ih =>
      intro ds j h
      cases h with
      | cons h1 h3 =>
        cases j with
        | zero => exact .cons hv2 h3
        | succ j => exact .cons h1 (ih _ j h3)
  obtain ⟨mm, ff⟩ := m2.put (ds := ds.set j d) (vs := vs.set j v) ha0 (hset vs ds j hd)
  refine ⟨a0, vs, (j : Int), j, rfl, rfl, e2, ?_, q σ _ mm ((f1.trans f2).trans ff) (((s.fr f1).fr f2).fr ff)⟩
  unfold ixN
  rw [if_pos (by omega), if_pos (by omega)]
  simp
theorem GsW.nil : GsW X [] [] ρ μ ρ μ := by
  intro w σ H vs m s h Q q
  cases h
  exact ⟨_, pgs_nil, rfl, q σ H m .refl s⟩
theorem GsW.cons (h1 : GW X tg d ρ μ ρ1 μ1) (h2 : GsW X tgs ds ρ1 μ1 ρ2 μ2) (ha : (assignEach (tg :: tgs) X.env).map (·.2) = assign tg X.env :: (assignEach tgs X.env).map (·.2) := by rfl) : GsW X (tg :: tgs) (d :: ds) ρ μ ρ2 μ2 := by
  intro w σ H vs m s h Q q
  cases h with
  | cons a b =>
    refine ⟨_, pgs_cons (p_gx (e := tg)) (p_gsx (e := tgs)) ha, ?_⟩
    refine ⟨_, _, rfl, h1 w σ H _ m s a _ fun σ1 H1 m1 f1 s1 => ?_⟩
    exact h2 w σ1 H1 _ m1 s1 (dqAll_mono f1.all _ _ b) Q fun σ2 H2 m2 f2 s2 => q σ2 H2 m2 (f1.trans f2) s2
theorem GW.tup {k : Nat} (h : GsW X tgs ds ρ μ ρ1 μ1) (hc : X.calm = true := by rfl) (hn : (assignEach tgs X.env).length = ds.length := by rfl) (hst : (assignEach tgs X.env).findIdx? (·.1) = none := by rfl) : GW X (.Tuple tgs k pos) (.tuple ds) ρ μ ρ1 μ1 := by
  intro w σ H v m s hv Q q
  obtain ⟨a0_, vs0_, rfl, ha, hd⟩ := Dq.tupE m.cst hv
  · refine ⟨_, pg_tup hc (p_gsx (e := tgs)) hn hst, ?_⟩
    exact ⟨_, _, rfl, ha _ dl_same, dqAll_len hd, h w σ H _ m s hd Q q⟩
theorem ST.asgW (h : EV X e ρ μ (.dat d) μ1) (hg : GW X tg d ρ μ1 ρ1 μ2) (hr : ST X W nn rest ρ1 μ2 P) (hs : swapsWithSole [tg] e pos.line X.env = pure false := by rfl) (hw : swappedStores [tg] e X.env = pure none := by rfl)
    (h1 : (assignEach [tg] X.env).map (·.2) = [assign tg X.env] := by rfl) : ST X W nn (.Assign [tg] e pos :: rest) ρ μ P := by
  intro w σ H D hn m s q
  refine ⟨_, pss_cons (ps_asg (p_ex (e := e)) (p_gx (e := tg)) hs hw h1) p_sx, ?_⟩
  refine h w σ H m s _ fun v H1 m1 f1 hv => ?_
  refine hg w σ H1 v m1 (s.fr f1) hv _ fun σ2 H2 m2 f2 s2 => ?_
  exact hr w σ2 H2 D hn m2 s2 fun o ho => (q o ho).step hn (f1.trans f2)
end
end J
/-! J14: promises made where no repr is under way; new lists handed out and in. -/
namespace J
open PySem PySem.Spec
open PyProof.Rows L2
variable [KC]
/-- a promise that holds where no repr is under way -/
structure FnG (P : Program) (w : World) (K : PySem.W.Frag) (mg : Str → Option Value) (base : Heap) (k : Nat) (f : Addr) (fd : FuncData) (ps : List Str) (sp : Sp) : Prop where
  many : ∀ xs G R E, sp xs G R E → xs.length = ps.length
  go : ∀ (B : Around) (st : List Env) (t : Shared) (G : Hp) (ar : Args) (ws : List Value) (xs : List V) (R : VK) (E : XK), B.guards = some [] → Room k B → Env0 P w K mg base B st t G → BindsTo t fd ar (ps.zip ws) → Vals xs ws → sp xs G R E → codeAny (model P w) B (.call (.ref f) ar) (CR CX0 st P w G t R E) t
section
variable {w : World} {P : Program} {K : PySem.W.Frag} {base : Heap} {mg : Str → Option Value}
theorem fnG_of {k : Nat} {f : Addr} {nm0 qual : Str} {prm : Arguments} {bd : List Stmt} {scp : Scope} {dV kV doc pm cdv ct oc : Value} {an od : Option Addr} {osl : Array (Option Value)} {N ps : List Str} {sp : Sp}
    (look : K.lookup f = some ⟨oc, od, .func (PySem.W.fnOf nm0 qual prm bd scp dV kV doc pm an cdv ct), osl⟩) (code : PySem.W.codeIn K cdv qual = true) (Sc : FnScope N ps scp) (many : ∀ xs G R E, sp xs G R E → xs.length = ps.length)
    (hb : ∀ (B : Around) (st : List Env) (t : Shared) (G : Hp) (xs : List V) (R : VK) (E : XK), B.guards = some [] → Room k (B.deeper (envOfC qual scp t.heap.objs.size f cdv)) → sp xs G R E → ∃ T, PSs (cxOf CX0 P w K mg base N qual scp f cdv B st t G E) bd T ∧ T { nx := fun _ G' => R .non G', rt := R } (L2.start N xs) G) :
    FnG P w K mg base (k + 1) f (PySem.W.fnOf nm0 qual prm bd scp dV kV doc pm an cdv ct) ps sp := by
  refine ⟨many, fun B st t G ar ws xs R E hgd room e0 bind vals hsp => ?_⟩
  have hlen := many _ _ _ _ hsp
  have inK : K.In t.heap := e0.mod.kin.keeps fun a o z => (e0.bs a o z).1
  have noL : t.heap.NoLimit := e0.mod.nolimit.keeps fun a o z => (e0.bs a o z).1
  refine codeAny_call_function room.depth (inK _ _ look) rfl Sc.co Sc.gen rfl (PySem.W.codeRec_of inK code) (bind _ _ _ _ ?_)
  refine wpAny_newFunctionEnv_cells Sc.kind (fun ⟨n, v⟩ hy => ?_) fun env he t1 x => ?_
  · rcases Sc.par n (List.of_mem_zip hy).1 with z | z
    · exact Or.inl z
    · exact Or.inr ⟨z, PySem.W.cellsFrom_some _ _ _ (Or.inl z)⟩
  subst he
  refine ⟨noL.keeps x.toInCall.keep, codeAny_func ?_⟩
  obtain ⟨T, hT, hr⟩ := hb B st t G xs R E hgd (room.deeper _) hsp
  have I : Inv (cxOf CX0 P w K mg base N qual scp f cdv B st t G E) [] (L2.start N xs) G t1 := inv_start Sc room.hd e0 hlen vals x
  have done : ∀ {σ' : L2.St} {G' : Hp} {v : V} {u : Value} {t' : Shared}, Inv (cxOf CX0 P w K mg base N qual scp f cdv B st t G E) [] σ' G' t' → RelV v u → R v G' → CE st P w G t R u t' := fun {σ' G' v u t'} J rv hq => ⟨v, G', J.os, J.bare, J.base, J.hok, rv, hq⟩
  refine wpAny_mono (hT.run [] t1 (L2.start N xs) G _ I hr) (fun fl t' hs => ?_) fun e t' hs => hs
  match fl, hs with
  | .ret u, hs =>
    obtain ⟨v, σ', G', J, rv, hq⟩ := hs
    exact done J rv hq
  | .next, hs =>
    obtain ⟨σ', G', J, hq⟩ := hs
    exact done (v := V.non) (u := Value.none) J rfl hq
  | .brk, hs =>
    obtain ⟨_, _, _, hq⟩ := hs
    exact hq.elim
  | .cont, hs =>
    obtain ⟨_, _, _, hq⟩ := hs
    exact hq.elim
theorem funG {x qual : Str} {st : Stmt} {f : Addr} {fd : FuncData} {N ps : List Str} {k : Nat} {sp : Sp} (F : Fun K x qual st f fd) (Sc : FnScope N ps (defScope st)) (many : ∀ xs G R E, sp xs G R E → xs.length = ps.length)
    (hb : ∀ (cdv : Value) (B : Around) (o : List Env) (t : Shared) (G : Hp) (xs : List V) (R : VK) (E : XK), B.guards = some [] → Room k (B.deeper (envOfC qual (defScope st) t.heap.objs.size f cdv)) → sp xs G R E →
      ∃ T, PSs (cxOf CX0 P w K mg base N qual (defScope st) f cdv B o t G E).nox (defBody st) T ∧ T { nx := fun _ G' => R .non G', rt := R } (L2.start N xs) G) : FnG P w K mg base (k + 1) f fd ps sp := by
  obtain ⟨oc, od, kV, doc, pm, an, cdv, ct, osl, rfl, lk, hcd⟩ := F.ex
  refine fnG_of lk hcd Sc many fun B o t G xs R E hgd room hsp => ?_
  obtain ⟨T, hT, hq⟩ := hb cdv B o t G xs R E hgd room hsp
  exact ⟨T, hT.nox, hq⟩
/-- by data -/
structure CalG (P : Program) (w : World) (K : PySem.W.Frag) (mg : Str → Option Value) (base : Heap) (n : Str) (k : Nat) (ps : List Str) (C : Con) : Prop where
  ex : ∃ f fd, FnG P w K mg base k f fd ps (SpV K ps C) ∧ mg n = some (.ref f) ∧ PySem.W.keepIn K (.ref f) = true ∧ Binds K fd ps []
theorem Df.calG {x : Str} {st : Stmt} {N ps : List Str} {k : Nat} {C : Con} (D : Df K mg x st) (Sc : FnScope N ps (defScope st))
    (hb : ∀ (kV doc pm : Value) (an : Option Addr) (cdv ct : Value) (us : List Value), us.length = ps.length → bindArgs (PySem.W.fnOf x x (defArgs st) (defBody st) (defScope st) .none kV doc pm an cdv ct) ⟨us, []⟩ = pure (ps.zip us))
    (hN : ps.length ≤ N.length) (hlen : ∀ rs μ r μ', C rs μ r μ' → μ'.length = μ.length)
    (body : ∀ (f : Addr) (cdv : Value) (A : Around) (outer : List Env) (s : Shared) (H : Hp) (E : XK), A.guards = some [] → Room k (A.deeper (envOfC x (defScope st) s.heap.objs.size f cdv)) → ∀ rs μ r μ', C rs μ r μ' →
      ST (cxOf CX0 P w K mg base N x (defScope st) f cdv A outer s H E).nox W0 μ.length (defBody st) (rs.map some ++ List.replicate (N.length - rs.length) none) μ (PostR r μ')) : CalG P w K mg base x (k + 1) ps C := by
  obtain ⟨f, fd, F, hm⟩ := D.ex
  refine ⟨f, fd, funG F Sc (fun xs G R E h => ?_) (fun cdv B o t G xs R E hgd room h => ?_), hm, F.kp, F.binds hb⟩
  · obtain ⟨w0, μ, rs, r, μ', _, hv, hl, _⟩ := h
    exact hv.1.trans hl
  · obtain ⟨w0, μ, rs, r, μ', m, hv, hl, hC, q⟩ := h
    refine body f cdv B o t G E hgd room rs μ r μ' hC w0 _ G _ (Nat.le_of_eq m.len.symm) m (sl_start hv (by omega)) fun oo ho => ?_
    have hw : w0.cut μ.length = w0 := by
      show (⟨w0.α.take μ.length, w0.ξ⟩ : Wd) = w0
      rw [← m.len, List.take_length]
    match oo, ho with
    | .ret r2 μ2, ho =>
      obtain ⟨rfl, rfl⟩ := ho
      intro v G' m' f' hv'
      rw [hw] at m' hv'
      exact q v G' m' f' hv'
/-- a new list that nobody else knows -/
def SpF (K : PySem.W.Frag) (ps : List Str) (C : List Ent → Sto → List PyData → Prop) : Sp := fun vs H Q _ => ∃ w μ rs xs, Mem K H w μ ∧ Vas K H w vs rs ∧ rs.length = ps.length ∧ C rs μ xs ∧
  ∀ p H' us, Mem K H' (wk' w p) μ → Fr w.α H H' → Nw H p → H' p = some (.lst us) → DqAll (dl H' (wk' w p).all) us xs → Q (.ref p) H'
structure CalF (P : Program) (w : World) (K : PySem.W.Frag) (mg : Str → Option Value) (base : Heap) (n : Str) (k : Nat) (ps : List Str) (C : List Ent → Sto → List PyData → Prop) : Prop where
  ex : ∃ f fd, FnOk P w K mg base CX0 k f fd ps (SpF K ps C) ∧ mg n = some (.ref f) ∧ PySem.W.keepIn K (.ref f) = true ∧ Binds K fd ps []
end
theorem fresh_of {w : Wd} {H H' : Hp} {K : PySem.W.Frag} {μ : Sto} {p : Addr} (m1 : Mem K H' w μ) (f : Fr w.α H H') (hp : Nw H' p) : Nw H p := Nw.back f hp fun z => m1.freshN hp (List.mem_append_left _ z)
/-- a list that is kept out becomes one that is followed -/
theorem Mem.adopt {K : PySem.W.Frag} {H : Hp} {w : Wd} {p : Addr} {μ : Sto} {us : List V} {xs : List PyData} (m : Mem K H (wk' w p) μ) (hx : p ∉ w.ξ) (e : H p = some (.lst us)) (hd : DqAll (dl H (wk' w p).all) us xs) :
    Mem K H (w.add [p]) (μ ++ [xs]) := by
  have sub : Same (dl H (wk' w p).all) (dl H (w.add [p]).all) := dl_sub fun b hb => by
    rw [all_wk']
    simp only [Wd.all, List.mem_append, List.mem_cons, List.not_mem_nil, or_false] at hb ⊢
    rcases hb with (h | h) | h
    · exact .inr (.inl h)
    · exact .inl h
    · exact .inr (.inr h)
  have pn : p ∉ w.α := m.out p List.mem_cons_self
  have l1 : w.α.length = μ.length := m.len
  refine ⟨m.cst, List.nodup_append.mpr ⟨m.nd, by simp, fun a h b h' => by simp at h'; subst h'; exact fun z => pn (z ▸ h)⟩, by simp [l1], fun k a ys h1 h2 => ?_, fun b hb z => ?_, fun b hb => m.ext b (List.mem_cons_of_mem _ hb), m.tab⟩
  · by_cases hk : k < w.α.length
    · obtain ⟨vs, e', hd'⟩ := m.cell k a ys (by rwa [List.getElem?_append_left hk] at h1) (by rwa [List.getElem?_append_left (by omega)] at h2)
      exact ⟨vs, e', dqAll_mono sub _ _ hd'⟩
    · rw [List.getElem?_append_right (by omega)] at h1 h2
      rw [l1] at h1
      cases hj : k - μ.length with
      | zero =>
        rw [hj] at h1 h2
        simp at h1 h2
        subst h1
        subst h2
        exact ⟨us, e, dqAll_mono sub _ _ hd⟩
      | succ j =>
        rw [hj] at h1
        simp at h1
  · rcases List.mem_append.mp z with z | z
    · exact m.out b (List.mem_cons_of_mem _ hb) z
    · have : b = p := by simpa using z
      subst this
      exact hx hb
section
variable {X : Cx} {ρ : REnv} {μ μ1 μ2 : Sto} {e : Expr} {es : List Expr} {pos p : Pos} {rs : List Ent} {xs ys : List PyData} {n : Str} {k : Nat} {ps : List Str}
theorem EVF.call {C : List Ent → Sto → List PyData → Prop} (F : CalF X.prog X.w X.K X.mg X.base n k ps C) (hr : Room k X.A) (ha : AV X (e :: es) ρ μ rs μ1) (hC : C rs μ1 xs) (hl : rs.length = ps.length := by rfl)
    (hg : Gl X n := by rfl) (hdb : (n == ("__debug__" : Str)) = false := by decide) (he : starEach (e :: es) X.env = (false, eval e X.env) :: starEach es X.env := by rfl) (hpl : (backTo pos (starEach es X.env)).any (·.1) = false := by rfl) :
    EVF X (.Call (.Name n p) (e :: es) [] pos) ρ μ xs μ1 := by
  intro w σ H m s Q q
  obtain ⟨f, fd, G, hm, hk, hb⟩ := F.ex
  refine ⟨_, pe_call (E := E0) G hr hg hm hk hb .nil pass0 (p_ax (e := e :: es)) hdb he hpl, ?_⟩
  refine ha w σ H m s _ fun vs H1 m1 f1 h1 => ?_
  exact ⟨w, μ1, rs, xs, m1, by rw [List.append_nil]; exact h1, hl, hC, fun p H' us m2 f2 hp e2 hd => q p H' us m2 (f1.trans f2) (fresh_of m1 f1 hp) e2 hd⟩
/-- the callee runs -/
theorem runG {pins : List (Addr × Obj)} {σ : L2.St} {H : Hp} {s : Shared} {Q : VK} {us : List Value} {vs : List V} {f : Addr} {fd : FuncData} {sp : Sp} (F : FnG X.prog X.w X.K X.mg X.base k f fd ps sp) (hgd : X.A.guards = some []) (hr : Room k X.A) (hb : Binds X.K fd ps []) (I : Inv X pins σ H s) (r : Vals vs us) (h : sp vs H Q E0) : wpAny (model X.prog X.w) X.A (call (.ref f) us) (EP X pins σ Q) X.xe s := by
  have hl : us.length = ps.length := r.length.symm.trans (F.many _ _ _ _ h)
  have hb2 := hb s us I.kIn (by rw [List.append_nil]; exact hl)
  rw [List.append_nil] at hb2
  refine wpAny_call (codeAny_mono (F.go X.A X.stack s H ⟨us, []⟩ us vs Q E0 hgd hr I.env0 hb2 r h) fun rr t hq => ?_)
  match rr, hq with
  | .ok (.ret u), hq => exact I.after hq
/-- f(a new list) -/
theorem EV.callNew {C : Con} {b : Bool} {x1 : Str} (F : CalG X.prog X.w X.K X.mg X.base n k [x1] C) (hgd : X.A.guards = some []) (hr : Room k X.A) (ha : EVF X e ρ μ xs μ1) (hC : C [.ptr μ1.length] (μ1 ++ [xs]) (Bb b) (μ1 ++ [ys]))
    (hg : Gl X n := by rfl) (hdb : (n == ("__debug__" : Str)) = false := by decide) (he : starEach [e] X.env = (false, eval e X.env) :: starEach [] X.env := by rfl) (hpl : (backTo pos (starEach [] X.env)).any (·.1) = false := by rfl) :
    EV X (.Call (.Name n p) [e] [] pos) ρ μ (Bb b) μ1 := by
  intro w σ H m s Q q
  obtain ⟨f, fd, G, hm, hk, hb⟩ := F.ex
  refine ⟨tCall (SpV X.K [x1] C) [] E0 (tCons (EX X e) tNil), ⟨fun pins s0 σ0 H0 Q0 I h => ?_⟩, ?_⟩
  · refine wpAny_Call_Name_kw (ld_glob I hg hm ?_ hdb)
    refine PySem.W.callWith_K (h₀ := X.base) I.ok.mod.kin hk (thn ((pa_cons (p_ex (e := e)) pa_nil he).run pos pins s0 σ0 H0 _ I h) fun us s1 ⟨vs, H1, I1, r, z⟩ => ⟨I1.kIn, ?_⟩) he hpl
    have z' : SpV X.K [x1] C (vs ++ []) H1 Q0 E0 := z
    rw [List.append_nil] at z'
    exact runG G hgd hr hb I1 r z'
  · refine ha w σ H m s _ fun p0 H1 us m1 f1 hp e1 hd => ?_
    have hx : p0 ∉ w.ξ := fun z => m.freshN hp (List.mem_append_right _ z)
    have hl1 : w.α.length = μ1.length := m1.len
    have hw : (w.add [p0]).cut w.α.length = w := by
      rw [take_add (Nat.le_refl _)]
      show (⟨w.α.take w.α.length, w.ξ⟩ : Wd) = w
      rw [List.take_length]
    refine ⟨w.add [p0], μ1 ++ [xs], [.ptr μ1.length], Bb b, μ1 ++ [ys], m1.adopt hx e1 hd, .cons ⟨p0, ?_, rfl⟩ .nil, rfl, hC, fun v H2 m2 f2 h2 => ?_⟩
    · rw [List.getElem?_append_right (by omega), hl1]
      simp
    · have mm := m2.cut w.α.length
      rw [hw, hl1, List.take_left] at mm
      cases h2
      refine q _ H2 mm (fun c o hc hn nt => f2 c o (f1 c o hc hn nt) (fun z => ?_) nt) (Dq.bl b)
      rcases List.mem_append.mp z with z | z
      · exact hn z
      · have : c = p0 := by simpa using z
        exact hp o (this ▸ hc) nt
end
/-! ### repr of lists and tuples -/
mutual
/-- no less than the signs of its repr -/
def rlen : PyData → Nat
  | .none => 4
  | .bool _ => 5
  | .int i => ((toString i : String) : Str).length
  | .str x => 10 * x.length + 2
  | .list xs => 3 + rlenAll xs
  | .tuple xs => 3 + rlenAll xs
  | .dict _ => 0
def rlenAll : List PyData → Nat
  | [] => 0
  | x :: xs => rlen x + 2 + rlenAll xs
end
theorem join_sum (sep : Str) : ∀ ys : List Str, (Str.join sep ys).length ≤ (ys.map fun y => y.length + sep.length).sum
  | [] => Nat.zero_le _
  | [x] => by
    show x.length ≤ _
    simp
  | x :: z :: r => by
    have := join_sum sep (z :: r)
    show (x ++ sep ++ Str.join sep (z :: r)).length ≤ _
    rw [strLen_append, strLen_append, List.map_cons, List.sum_cons]
    omega
theorem strOk_lt {x : Str} (h : PyData.strOk x = true) : ∀ c ∈ x.cps.toList, c < 16 ^ 8 := by
  unfold PyData.strOk at h
  rw [← Array.all_toList, List.all_eq_true] at h
  intro c hc
  have := of_decide_eq_true (h c hc)
  omega
mutual
theorem shown_le : ∀ d : PyData, d.canLay0 = true → d.shown.length ≤ rlen d
  | .none, _ => by rw [PyData.shown_none]; decide
  | .bool b, _ => by rw [PyData.shown_bool]; cases b <;> decide
  | .int i, _ => by rw [PyData.shown_int]; exact Nat.le_refl _
  | .str x, h => by
    rw [PyData.shown_str]
    simp only [PyData.canLay0] at h
    exact StrLaws.reprText_len x (strOk_lt h)
  | .list xs, h => by
    simp only [PyData.canLay0] at h
    have h1 := shownAll_le xs h
    have h2 := join_sum ", " (PyData.shownAll xs)
    rw [PyData.shown_list, strLen_append, strLen_append]
    have e1 : ((("[" : String) : Str)).length = 1 := by decide
    have e2 : ((("]" : String) : Str)).length = 1 := by decide
    have e3 : (((", " : String) : Str)).length = 2 := by decide
    rw [e3] at h2
    simp only [rlen]
    omega
  | .tuple xs, h => by
    simp only [PyData.canLay0] at h
    have h1 := shownAll_le xs h
    have h2 := join_sum ", " (PyData.shownAll xs)
    rw [PyData.shown_tuple, strLen_append, strLen_append]
    have e1 : ((("(" : String) : Str)).length = 1 := by decide
    have e2 : ((((if xs.length == 1 then ",)" else ")" : String) : Str))).length ≤ 2 := by split <;> decide
    have e3 : (((", " : String) : Str)).length = 2 := by decide
    rw [e3] at h2
    simp only [rlen]
    omega
  | .dict _, h => by simp [PyData.canLay0] at h
theorem shownAll_le : ∀ xs : List PyData, PyData.canLayAll0 xs = true → ((PyData.shownAll xs).map fun y => y.length + 2).sum ≤ rlenAll xs
  | [], _ => by rw [PyData.shownAll_nil]; exact Nat.zero_le _
  | x :: xs, h => by
    simp only [PyData.canLayAll0, Bool.and_eq_true] at h
    have h1 := shown_le x h.1
    have h2 := shownAll_le xs h.2
    rw [PyData.shownAll_cons, List.map_cons, List.sum_cons]
    simp only [rlenAll]
    omega
end
mutual
theorem noDict0 : ∀ d : PyData, d.canLay0 = true → d.hasDict = false
  | .none, _ => rfl
  | .bool b, _ => rfl
  | .int i, _ => rfl
  | .str x, h => rfl
  | .list xs, h => by
    simp only [PyData.canLay0] at h
    simpa only [PyData.hasDict] using noDictAll0 xs h
  | .tuple xs, h => by
    simp only [PyData.canLay0] at h
    simpa only [PyData.hasDict] using noDictAll0 xs h
  | .dict _, h => by simp [PyData.canLay0] at h
theorem noDictAll0 : ∀ xs : List PyData, PyData.canLayAll0 xs = true → PyData.hasDictAll xs = false
  | [], _ => rfl
  | x :: xs, h => by
    simp only [PyData.canLayAll0, Bool.and_eq_true] at h
    simp only [PyData.hasDictAll, noDict0 x h.1, noDictAll0 xs h.2, Bool.or_self]
end
/-- a list or tuple -/
def isSeq : PyData → Bool
  | .list _ | .tuple _ => true
  | _ => false
structure Shw (d : PyData) : Prop where
  seq : isSeq d = true
  lay : d.canLay0 = true
  shw : d.showable = true
  dep : d.depth ≤ 60
  len : rlen d ≤ 10000000
theorem EV.reprD {X : Cx} {ρ : REnv} {μ μ1 : Sto} {o : Expr} {d : PyData} {k : Nat} {pos p : Pos} (T : X.mg "repr" = none) (hgd : X.A.guards = some []) (hr : Room k X.A) (ho : EV X o ρ μ (.dat d) μ1) (hd : Shw d) (hg : Gl X "repr" := by rfl) (hs : starEach [o] X.env = (false, eval o X.env) :: starEach [] X.env := by rfl) : EV X (.Call (.Name "repr" p) [o] [] pos) ρ μ (Ss d.shown) μ1 := by
  intro w σ H m s Q q
  have cr : CallR X (.builtin "repr") (fun vs H Q => ∃ a, vs = [V.ref a] ∧ Dp X.K H (.ref a) d ∧ Q (.str d.shown) H) := by
    intro pins s σ H xs us Q I r h
    obtain ⟨a, rfl, hdp, hq⟩ := h
    obtain ⟨u, rfl, ru⟩ := vals1 r
    obtain rfl : u = Value.ref a := ru
    obtain ⟨as, rd⟩ := Dp.reads I d _ _ hdp (show RelV (V.ref a) (Value.ref a) from rfl)
    refine repr_of_reads' rd hd.shw (fun z => by rw [noDict0 d hd.lay] at z; cases z) hgd ?_ (fun _ _ e => e) (fun h' u tk kp => ?_) ?_
    · have h1 := hd.dep
      have h2 := hr.un
      omega
    · exact ⟨.str d.shown, H, I.kept (t' := tk) kp, ⟨u, rfl⟩, hq⟩
    · have := shown_le d hd.lay
      have h2 := hd.len
      exact Nat.le_trans (Nat.le_trans this h2) (by decide)
  refine ⟨_, pe_callB cr hg T (by decide +kernel) (pa_cons (p_ex (e := o)) pa_nil hs) (by decide) (by decide) hs (by rfl), ?_⟩
  refine ho w σ H m s _ fun v H1 m1 f1 h1 => ?_
  have h1' : Dq (dl H1 w.all) v d := h1
  obtain ⟨a, rfl⟩ : ∃ a, v = .ref a := by
    have := hd.seq
    cases d with
    | list ds => cases h1; exact ⟨_, rfl⟩
    | tuple ds => cases h1 <;> exact ⟨_, rfl⟩
    | _ => cases this
  exact ⟨a, rfl, Dq.dp (Mem.cst (by assumption)) dl_same _ _ h1' hd.lay, q _ H1 m1 f1 (Dq.str _)⟩
end J
/-! J15: two new lists at once; list(range(n)). -/
namespace J
open PySem PySem.Spec
open PyProof.Rows L2
variable [KC]
section
variable {X : Cx} {W : WX} {ρ : REnv} {μ μ1 μ2 : Sto} {a b e : Expr} {es : List Expr} {pos p p2 : Pos} {xs ys : List PyData} {n : Nat} {P : Out → Prop} {rest : List Stmt}
theorem EVF.lstRg {j : Int} (T : X.mg "list" = none) (T2 : X.mg "range" = none) (hc : X.calm = true) (ha : EV X a ρ μ (Ii j) μ1) (h0 : 0 ≤ j) (h1 : j ≤ 1000) (hg : Gl X "list" := by rfl) (hg2 : Gl X "range" := by rfl)
    (hs : starEach [a] X.env = (false, eval a X.env) :: starEach [] X.env := by rfl) (hs2 : starEach [.Call (.Name "range" p2) [a] [] p] X.env = (false, eval (.Call (.Name "range" p2) [a] [] p) X.env) :: starEach [] X.env := by rfl) {p3 : Pos} : EVF X (.Call (.Name "list" p3) [.Call (.Name "range" p2) [a] [] p] [] pos) ρ μ ((List.range j.toNat).map fun (i : Nat) => PyData.int (0 + (i : Int))) μ1 := by
  intro w σ H m s Q q
  refine ⟨_, pe_listRg hc hg T (prg_1 hg2 T2 (p_ex (e := a)) hs) hs2, ?_⟩
  refine ha w σ H m s _ fun v H1 m1 f1 h1 => ?_
  cases h1
  refine ⟨j, rfl, RgOk.of_le (by decide) (by omega) (by decide) h0, fun l hl => ?_⟩
  have hl0 := fresh_of m1 f1 (Nw.of hl)
  refine q l _ (rgV 0 j) (m1.keep hl) (f1.trans (Fr.of_same (Same.new hl))) hl0 upd_same ?_
  have : ∀ (bs : List Nat), DqAll (dl (upd H1 l (.lst (rgV 0 j))) (wk' w l).all) (bs.map fun i => V.int (0 + (i : Nat))) (bs.map fun (i : Nat) => PyData.int (0 + (i : Int))) := by
    intro bs
    induction bs with
    | nil => exact .nil
    | cons b bs ih => exact .cons (.int _) ih
  have e : j.toNat = (j - 0).toNat := by rw [Int.sub_zero]
  rw [e]
  exact this _
theorem Sl.grow {K : PySem.W.Frag} {H H' : Hp} {w w' : Wd} {σ : L2.St} (h : Sl K H w σ ρ) (f : Same (dl H w.all) (dl H' w'.all)) (g : ∀ (k : Nat) (c : Addr), w.α[k]? = some c → w'.α[k]? = some c) : Sl K H' w' σ ρ := ⟨h.len, fun i r e => by
  obtain ⟨v, hv, hr⟩ := h.at_ i r e
  refine ⟨v, hv, ?_⟩
  match r, hr with
  | .dat d, hr => exact dq_mono f d v hr
  | .ptr k, hr => exact ⟨hr.choose, g _ _ hr.choose_spec.1, hr.choose_spec.2⟩
  | .obj C fs, hr =>
    obtain ⟨x, dx, ws, e, hx, hn, hd⟩ := hr
    exact ⟨x, dx, ws, e, f _ _ hx, hn, dqAll_mono f _ _ hd⟩
  | .raw u, hr => exact hr
  | .exc a d fs, hr =>
    obtain ⟨e, ws, hx, hn, hd⟩ := hr
    exact ⟨e, ws, f _ _ hx, hn, dqAll_mono f _ _ hd⟩
  | .scr ns, hr =>
    obtain ⟨c, e, hs⟩ := hr
    exact ⟨c, e, Same.seq f hs⟩⟩
/-- x, y = two new lists -/
theorem ST.par2 {i j : Nat} {x y : Str} {px py pt : Pos} {kt k2 pt2} (ha : EVF X a ρ μ xs μ1) (hb : EVF X b ρ μ1 ys μ2) (hN : X.N.Nodup) (hi : X.N[i]? = some x) (hj : X.N[j]? = some y) (hij : i ≠ j)
    (hx : X.env.scope.names.lookup x = some .local) (hy : X.env.scope.names.lookup y = some .local) (hr : ST X W n rest ((ρ.set i (some (.ptr (μ2.length + 1)))).set j (some (.ptr μ2.length))) (μ2 ++ [ys] ++ [xs]) P)
    (hw : swappedStores [.Tuple [.Name x px, .Name y py] kt pt] (.Tuple [a, b] k2 pt2) X.env = pure (some [x, y])) (hc : X.calm = true := by rfl)
    (hs : swapsWithSole [.Tuple [.Name x px, .Name y py] kt pt] (.Tuple [a, b] k2 pt2) pos.line X.env = pure false := by rfl) (he : starEach [a, b] X.env = (false, eval a X.env) :: starEach [b] X.env := by rfl) (he2 : starEach [b] X.env = (false, eval b X.env) :: starEach [] X.env := by rfl) : ST X W n (.Assign [.Tuple [.Name x px, .Name y py] kt pt] (.Tuple [a, b] k2 pt2) pos :: rest) ρ μ P := by
  intro w σ H D hn m s q
  refine ⟨_, pss_cons (ps_par hc hN hi hj hij hx hy (pa_cons (p_ex (e := a)) (pa_cons (p_ex (e := b)) pa_nil he2) he) hw hs) p_sx, ?_⟩
  refine ha w σ H m s _ fun c1 H1 us m1 f1 hc1 e1 hd1 => ?_
  have g1 : Same (dl H w.all) (dl H1 (wk' w c1).all) := keep_outN (K := X.K) hc1 f1 ⟨_, e1⟩
  refine hb (wk' w c1) σ H1 m1 (s.same2 g1) _ fun c2 H2 vs m2 f2 hc2 e2 hd2 => ?_
  have g2 : Same (dl H1 (wk' w c1).all) (dl H2 (wk' (wk' w c1) c2).all) := keep_outN (K := X.K) hc2 f2 ⟨_, e2⟩
  have n1 : c1 ∉ w.all := m.freshN hc1
  have n2 : c2 ∉ (wk' w c1).all := m1.freshN hc2
  have e1' : H2 c1 = some (.lst us) := f2 c1 _ e1 (fun z => n1 (List.mem_append_left _ z)) (fun q z => by cases z)
  have hd1' : DqAll (dl H2 (wk' (wk' w c1) c2).all) us xs := dqAll_mono g2 _ _ hd1
  have a1 : Mem X.K H2 ((wk' w c1).add [c2]) (μ2 ++ [ys]) := m2.adopt (fun z => n2 (List.mem_append_right _ z)) e2 hd2
  have all1 : ∀ c, c ∈ ((wk' w c1).add [c2]).all → c ∈ (wk' (wk' w c1) c2).all := fun c hc => by
    rw [all_wk', all_wk']
    simp only [Wd.all, List.mem_append, List.mem_cons, List.not_mem_nil, or_false] at hc ⊢
    rcases hc with (h | h) | (h | h)
    · exact .inr (.inr (.inl h))
    · exact .inl h
    · exact .inr (.inl h)
    · exact .inr (.inr (.inr h))
  have a2 : Mem X.K H2 ((w.add [c2]).add [c1]) (μ2 ++ [ys] ++ [xs]) := Mem.adopt (w := w.add [c2]) a1 (fun z => n1 (List.mem_append_right _ z)) e1' (dqAll_mono (dl_sub all1) _ _ hd1')
  have f12 : Fr w.α H H2 := f1.trans f2
  have al : w.add [c2, c1] = (w.add [c2]).add [c1] := by simp [Wd.add]
  have sl : Sl X.K H2 ((w.add [c2]).add [c1]) σ ρ := by
    refine s.grow ((g1.trans g2).trans (dl_sub fun c hc => ?_)) fun k c hk => ?_
    · rw [all_wk', all_wk']
      simp only [Wd.all, List.mem_append, List.mem_cons, List.not_mem_nil, or_false] at hc ⊢
      rcases hc with ((h | h) | h) | h
      · exact .inr (.inr (.inl h))
      · exact .inl h
      · exact .inr (.inl h)
      · exact .inr (.inr (.inr h))
    · have hk' := (List.getElem?_eq_some_iff.mp hk).1
      show ((w.α ++ [c2]) ++ [c1])[k]? = some c
      rw [List.getElem?_append_left (by simp; omega), List.getElem?_append_left hk']
      exact hk
  have l2 : w.α.length = μ2.length := m2.len
  refine ⟨.ref c1, .ref c2, rfl, hr ((w.add [c2]).add [c1]) _ H2 D (by simp; omega) a2 ((sl.set (v := .ref c1) (r := .ptr (μ2.length + 1)) ⟨c1, ?_, rfl⟩).set (v := .ref c2) (r := .ptr μ2.length) ⟨c2, ?_, rfl⟩) fun o ho => ?_⟩
  · show ((w.α ++ [c2]) ++ [c1])[μ2.length + 1]? = some c1
    rw [List.getElem?_append_right (by simp; omega)]
    simp [l2]
  · show ((w.α ++ [c2]) ++ [c1])[μ2.length]? = some c2
    rw [List.getElem?_append_left (by simp; omega), List.getElem?_append_right (by omega)]
    simp [l2]
  · rw [← al]
    refine Fin.grow (q o ho) hn f12 fun c hc => ?_
    rcases List.mem_cons.mp hc with rfl | hc
    · exact fresh_of m1.unkeep f1 hc2
    · have : c = c1 := by simpa using hc
      rw [this]
      exact hc1
end
end J
/-! J16: keywords in calls of classes and methods. -/
namespace J
open PySem PySem.Spec
open PyProof.Rows L2
variable [KC]
theorem kbn {K : PySem.W.Frag} {x qual : Str} {st : Stmt} {f : Addr} {fd : FuncData} {ps ks : List Str} {n : Nat} (F : Fun K x qual st f fd)
    (h : ∀ (kV doc pm : Value) (an : Option Addr) (cdv ct : Value) (us ws : List Value), us.length = n → ws.length = ks.length → bindArgs (PySem.W.fnOf x qual (defArgs st) (defBody st) (defScope st) .none kV doc pm an cdv ct) ⟨us, ks.zip ws⟩ = pure (ps.zip (us ++ ws))) : KBn K fd ps n ks (fun us ws => us ++ ws) (fun vs zs => vs ++ zs) := by
  obtain ⟨oc, od, kV, doc, pm, an, cdv, ct, osl, rfl, lk, hcd⟩ := F.ex
  exact ⟨fun s us ws _ l1 l2 => .of_eq (h kV doc pm an cdv ct us ws l1 l2), fun r1 r2 => r1.append r2⟩
section
variable {w : World} {P : Program} {K : PySem.W.Frag} {base : Heap} {mg : Str → Option Value}
structure MakK (P : Program) (w : World) (K : PySem.W.Frag) (mg : Str → Option Value) (base : Heap) (n : Str) (C : Addr) (f kw : Str) (k : Nat) (ps : List Str) (G : List PyData → Prop) : Prop where
  ex : ∃ g fd, FnOk P w K mg base CX0 k g fd ps (spInit K C f G) ∧ Mk K C g ∧ mg n = some (.ref C) ∧ KBn K fd ps 1 [kw] (fun us ws => us ++ ws) (fun vs zs => vs ++ zs)
structure MthK (P : Program) (w : World) (K : PySem.W.Frag) (mg : Str → Option Value) (base : Heap) (C : Addr) (m kw : Str) (k : Nat) (ps : List Str) (c : Con) : Prop where
  ex : ∃ f fd, FnOk P w K mg base CX0 k f fd ps (SpV K ps c) ∧ Meth K C m f ∧ KBn K fd ps 1 [kw] (fun us ws => us ++ ws) (fun vs zs => vs ++ zs)
end
section
variable {X : Cx} {ρ : REnv} {μ μ1 μ2 μ3 : Sto} {a b c e o : Expr} {pos p2 p apos kpos : Pos} {rs : List Ent} {r : Ent} {n f m kw : Str} {C : Addr} {fs : List (Str × PyData)} {k : Nat} {ps : List Str} {cn : Con}
theorem EV.makeK {G : List PyData → Prop} {gs : List PyData} (M : MakK X.prog X.w X.K X.mg X.base n C f kw k ps G) (hr : Room (k + 1) X.A) (ha : EV X e ρ μ (Tp gs) μ1) (hG : G gs) (hg : Gl X n := by rfl) (hdb : (n == ("__debug__" : Str)) = false := by decide)
    (hall : (backToKw pos (keywordEach [⟨some kw, e, kpos⟩] X.env)).all (·.1.isSome) = true := by rfl) (hks : (backToKw pos (keywordEach [⟨some kw, e, kpos⟩] X.env)).filterMap (·.1) = [kw] := by rfl)
    (hpl : ((backTo pos (starEach [] X.env)).any (·.1) || (backToKw pos (keywordEach [⟨some kw, e, kpos⟩] X.env)).any (·.1.isNone)) = false := by rfl) : EV X (.Call (.Name n p) [] [⟨some kw, e, kpos⟩] pos) ρ μ (.obj C [(f, .tuple gs)]) μ1 := by
  intro w σ H m s Q q
  obtain ⟨g, fd, F, mk, hm, bi⟩ := M.ex
  refine ⟨_, pe_makeK0 (E := E0) mk F hr hg hm bi pass0 (pk_cons (p_ex (e := e)) pk_nil) hall hks hdb hpl, ?_⟩
  refine ha w σ H m s _ fun v H1 m1 f1 h1 => ?_
  refine ⟨rfl, rfl, fun x dx hx hdx hne => ?_⟩
  refine ⟨x, dx, v, wk' w x, μ1, gs, rfl, upd_same, List.mem_cons_self, make_mem m1 hx hdx hne, make_val h1 hx hdx, hG, fun H2 m2 f2 h2 => ⟨rfl, ?_⟩⟩
  exact make_end (Q := Q) (v := v) m1 hx hdx hne (fun u H' mm ff hh => q u H' mm (f1.trans ff) hh) m2 f2 h2
def tMethK (C : Addr) (m : Str) (sp : Sp) (E : XK) (to : TE) (tk : TA) : TE := fun σ H Q => to σ H fun x H1 => ∃ a dx fs, x = .ref a ∧ H1 a = some (.ins C dx fs) ∧ fs.lookup m = none ∧ tk σ H1 fun zs H2 => zs.length = 1 ∧ sp ([.ref a] ++ zs) H2 Q E
theorem pe_methKw {pl : Sem Bool} {to : TE} {tk : TA} {g : Addr} {fd : FuncData} {sp : Sp} (ho : PE X o to) (cl : Cls X.K C) (hm : Meth X.K C m g) (F : FnOk X.prog X.w X.K X.mg X.base CX0 k g fd ps sp) (hr : Room k X.A) (hb : KBn X.K fd ps 1 [kw] (fun us ws => us ++ ws) (fun vs zs => vs ++ zs)) (hkw : PK X [⟨some kw, e, kpos⟩] tk)
    (hall : (backToKw pos (keywordEach [⟨some kw, e, kpos⟩] X.env)).all (·.1.isSome) = true := by rfl) (hks : (backToKw pos (keywordEach [⟨some kw, e, kpos⟩] X.env)).filterMap (·.1) = [kw] := by rfl)
    (hpl : ((backTo pos (starEach [] X.env)).any (·.1) || (backToKw pos (keywordEach [⟨some kw, e, kpos⟩] X.env)).any (·.1.isNone)) = false := by rfl)
    (ht : eval (.Call (.Attribute o m apos) [] [⟨some kw, e, kpos⟩] pos) X.env = (do
      let ov ← eval o X.env
      standAt apos.atName
      let (f, first) ← holding [ov] (getMethod ov m pl)
      callWith pos f first (backTo pos (starEach [] X.env)) (backToKw pos (keywordEach [⟨some kw, e, kpos⟩] X.env))) := by rfl) : PE X (.Call (.Attribute o m apos) [] [⟨some kw, e, kpos⟩] pos) (tMethK C m sp E0 to tk) := by
  refine ⟨fun pins s σ H Q I h => ?_⟩
  refine PySem.W.methodCall_KW (pl := pl) (thn (ho.run pins s σ H _ I h) fun u s1 ⟨x, H1, I1, rx, a, dx, fs, ex, ea, l, q⟩ => ?_) ht
  subst ex
  obtain rfl : u = Value.ref a := rx
  refine getmeth_ok I1 ea cl hm l ?_
  refine PySem.W.callWith_KW0 (first := [.ref a]) (h₀ := X.base) I.ok.mod.kin hm.kp hall ?_ hpl
  refine thn (hkw.run pos pins s1 σ H1 _ I1 q) fun ws s2 ⟨zs, H2, I2, rz, l2, q2⟩ => ⟨I2.kIn, ?_⟩
  rw [hks]
  exact run_fnN (us := [.ref a]) (vs := [.ref a]) F hr hb pass0 I2 (.cons rfl .nil) rz rfl l2 q2
theorem EV.methK {pl : Sem Bool} (ho : EV X o ρ μ (.obj C fs) μ1) (cl : Cls X.K C) (hm : MthK X.prog X.w X.K X.mg X.base C m kw k ps cn) (hr : Room k X.A) (hl : fs.lookup m = none) (ha : EV X e ρ μ1 r μ2) {r3 : Ent} (hC : cn [.obj C fs, r] μ2 r3 μ3) (hps : ps.length = 2 := by rfl)
    (hall : (backToKw pos (keywordEach [⟨some kw, e, kpos⟩] X.env)).all (·.1.isSome) = true := by rfl) (hks : (backToKw pos (keywordEach [⟨some kw, e, kpos⟩] X.env)).filterMap (·.1) = [kw] := by rfl)
    (hpl : ((backTo pos (starEach [] X.env)).any (·.1) || (backToKw pos (keywordEach [⟨some kw, e, kpos⟩] X.env)).any (·.1.isNone)) = false := by rfl)
    (ht : eval (.Call (.Attribute o m apos) [] [⟨some kw, e, kpos⟩] pos) X.env = (do
      let ov ← eval o X.env
      standAt apos.atName
      let (f, first) ← holding [ov] (getMethod ov m pl)
      callWith pos f first (backTo pos (starEach [] X.env)) (backToKw pos (keywordEach [⟨some kw, e, kpos⟩] X.env))) := by rfl) : EV X (.Call (.Attribute o m apos) [] [⟨some kw, e, kpos⟩] pos) ρ μ r3 μ3 := by
  intro w σ H m0 s Q q
  obtain ⟨g, fd, F, me, bi⟩ := hm.ex
  refine ⟨_, pe_methKw (pl := pl) (p_ex (e := o)) cl me F hr bi (pk_cons (p_ex (e := e)) pk_nil) hall hks hpl ht, ?_⟩
  refine ho w σ H m0 s _ fun v H1 m1 f1 h1 => ?_
  have h1' := h1
  obtain ⟨x, dx, ws, rfl, hx, hn, hd⟩ := h1
  refine ⟨x, dx, ws, rfl, (dl_some hx).2, lk_none hn hl, ?_⟩
  refine ha w σ H1 m1 (s.fr f1) _ fun u H2 m2 f2 h2 => ?_
  exact ⟨rfl, w, μ2, [.obj C fs, r], r3, μ3, m2, .cons (r := .obj C fs) (h1'.fr f2) (.cons h2 .nil), hps.symm, hC, fun v H' m3 f3 h3 => q v H' m3 ((f1.trans f2).trans f3) h3⟩
end
end J
/-! J17: bool of an object. -/
namespace JB
open PySem
open PySem.Sem (wp)
theorem mb_obj (l : Addr) : Meets (Builtin.«bool.__new__» ⟨[.type "bool", .ref l], []⟩) (fun _ R s => (∀ (M : Model) (A : Around) (E : Value → Shared → Prop) (Q : Bool → Shared → Prop), Q true s → wpAny M A (truthy (.ref l)) Q E s) ∧ R (.ok (.ret (.bool true))) s) :=
  Meets.of_wp fun prog w A R s h0 => by
    obtain ⟨ht, h1⟩ := h0
    obtain ⟨hp, gg, d, tk, o1⟩ := s
    have f0 := F.conv_sub_bool
    repeat (any_goals (first | assumption | (with_reducible refine ht _ _ _ _ ?_) | wp_step))
    all_goals first | exact ⟨_, rfl, h1⟩ | exact h1 | skip
end JB
namespace J
open PySem PySem.Spec
open PyProof.Rows L2
variable [KC]
theorem EV.boolO {X : Cx} {ρ : REnv} {μ μ1 : Sto} {o : Expr} {C : Addr} {fs : List (Str × PyData)} {pos p : Pos} (T : X.mg "bool" = none) (ho : EV X o ρ μ (.obj C fs) μ1) (h1 : PySem.W.findIn X.K (.ref C) "__bool__" = some none) (h2 : PySem.W.findIn X.K (.ref C) "__len__" = some none) (hg : Gl X "bool" := by rfl) (hs : starEach [o] X.env = (false, eval o X.env) :: starEach [] X.env := by rfl) : EV X (.Call (.Name "bool" p) [o] [] pos) ρ μ (Bb true) μ1 := by
  intro w σ H m s Q q
  have cr : CallR X (.type "bool") (fun vs H Q => ∃ x dx ws, vs = [V.ref x] ∧ H x = some (.ins C dx ws) ∧ Q (.bl true) H) := by
    intro pins s σ H xs us Q I r h
    obtain ⟨x, dx, ws, rfl, hx, hq⟩ := h
    obtain ⟨u, rfl, ru⟩ := vals1 r
    obtain rfl : u = Value.ref x := ru
    obtain ⟨od, J⟩ := ins_at I hx
    obtain ⟨mm, Fr0⟩ := I.fr
    exact call_bool_1 (JB.mb_obj x) ⟨fun M A E Q hQ => PySem.W.truthy_K0 Fr0 I.mod.kin J h1 h2 hQ, rfl, .bl true, H, I, rfl, hq⟩
  refine ⟨_, pe_callTy cr hg T (by decide +kernel) (pa_cons (p_ex (e := o)) pa_nil hs) (by decide) (by decide) hs (by rfl), ?_⟩
  refine ho w σ H m s _ fun v H1 m1 f1 h1 => ?_
  obtain ⟨x, dx, ws, rfl, hx, hn, hd⟩ := h1
  exact ⟨x, dx, ws, rfl, (dl_some hx).2, q _ H1 m1 f1 (Dq.bl true)⟩
end J
/-! J18: objects compared, their class asked. -/
namespace J
open PySem PySem.Spec
open PyProof.Rows L2
variable [KC]
structure OwnB (P : Program) (w : World) (K : PySem.W.Frag) (mg : Str → Option Value) (base : Heap) (C : Addr) (m : Str) (k : Nat) (cn : Con) : Prop where
  ex : ∃ f fd, FnOk P w K mg base CX0 k f fd ["self", "other"] (SpV K ["self", "other"] cn) ∧ PySem.W.findIn K (.ref C) m = some (some (.ref f)) ∧ PySem.W.isFn K (.ref f) = true ∧ Binds K fd ["self", "other"] []
section
variable {X : Cx} {ρ : REnv} {μ μ1 μ2 μ3 : Sto} {a b o : Expr} {pos p p2 : Pos} {C : Addr} {fs gs : List (Str × PyData)} {k : Nat} {cn : Con} {n : Str}
theorem own_run2 {A : Around} {pins : List (Addr × Obj)} {σ : L2.St} {H : Hp} {s : Shared} {g x y : Addr} {fd : FuncData} {sp : Sp} {Q : VK} {R E' : Value → Shared → Prop} (F : FnOk X.prog X.w X.K X.mg X.base CX0 k g fd ["self", "other"] sp) (hr : Room k A) (hf : A.frames = some X.stack) (bi : Binds X.K fd ["self", "other"] []) (I : Inv X pins σ H s)
    (h : sp [.ref x, .ref y] H Q E0) (hR : ∀ u s', EP X pins σ Q u s' → R u s') : wpAny (model X.prog X.w) A (call (.ref g) [.ref x, .ref y]) R E' s := by
  have e0 := I.env0
  have e1 : Env0 X.prog X.w X.K X.mg X.base A X.stack s H := ⟨hf, e0.mod, e0.bs, e0.bsz, e0.funs, e0.frf, e0.hok, e0.bare⟩
  refine wpAny_call (codeAny_mono (F.run A X.stack s H ⟨[.ref x, .ref y], []⟩ [.ref x, .ref y] [.ref x, .ref y] Q E0 hr e1 (bi s [.ref x, .ref y] I.kIn rfl) (.cons rfl (.cons rfl .nil)) h) fun rr t hq => ?_)
  match rr, hq with
  | .ok (.ret u), hq => exact hR u t (I.after hq)
def rEqO (C : Addr) (sp : Sp) : R2 := fun x y H Q => ∃ c d dx dy fs gs, x = .ref c ∧ y = .ref d ∧ H c = some (.ins C dx fs) ∧ H d = some (.ins C dy gs) ∧ sp [.ref c, .ref d] H (fun v H' => ∃ kk, v = .bl kk ∧ Q (.bl kk) H') E0
theorem op_eqO {f : Addr} {fd : FuncData} {sp : Sp} (F : FnOk X.prog X.w X.K X.mg X.base CX0 k f fd ["self", "other"] sp) (h1 : PySem.W.findIn X.K (.ref C) "__eq__" = some (some (.ref f))) (h2 : PySem.W.isFn X.K (.ref f) = true) (bi : Binds X.K fd ["self", "other"] []) (hr : Room k X.A) : OpR X (compareOp .Eq) (rEqO C sp) := by
  intro pins s σ H x y v u Q I rx ry hq
  obtain ⟨c, d, dx, dy, fs, gs, rfl, rfl, hc, hd, hsp⟩ := hq
  obtain rfl : v = Value.ref c := rx
  obtain rfl : u = Value.ref d := ry
  obtain ⟨oc, J1⟩ := ins_at I hc
  obtain ⟨od, J2⟩ := ins_at I hd
  obtain ⟨mm, Fr0⟩ := I.fr
  show wpAny (model X.prog X.w) X.A (richCompare .Eq (.ref c) (.ref d)) (EP X pins σ Q) X.xe s
  refine PySem.W.cmp_K (op := .Eq) (tb := .ref C) hr.units0 Fr0 I.mod.kin J1 J2.type (by simp [PySem.W.notFirst]) h1 h2 (own_run2 F hr I.ok.frames bi I hsp fun u t z => ?_)
  obtain ⟨z1, H', I', r1, kk, rfl, hq⟩ := z
  obtain rfl : u = Value.bool kk := r1
  exact ⟨.bl kk, H', I', rfl, hq⟩
theorem r2_eqO {kk : Bool} (hC : cn [.obj C fs, .obj C gs] μ (Bb kk) μ) {K : PySem.W.Frag} : R2V K (rEqO C (SpV K ["self", "other"] cn)) (.obj C fs) (.obj C gs) (Bb kk) μ := by
  intro w H v u m hv hu Q q
  have hv' := hv
  have hu' := hu
  obtain ⟨x, dx, ws, rfl, hx, _, _⟩ := hv
  obtain ⟨y, dy, us, rfl, hy, _, _⟩ := hu
  refine ⟨x, y, dx, dy, ws, us, rfl, rfl, (dl_some hx).2, (dl_some hy).2, w, μ, [.obj C fs, .obj C gs], Bb kk, μ, m, .cons (r := .obj C fs) hv' (.cons (r := .obj C gs) hu' .nil), rfl, hC, fun t H' m2 f2 h2 => ?_⟩
  cases h2
  exact ⟨kk, rfl, q _ H' m2 f2 (Dq.bl kk)⟩
theorem cEqO {kk : Bool} (M : OwnB X.prog X.w X.K X.mg X.base C "__eq__" k cn) (hr : Room k X.A) (ha : EV X a ρ μ (.obj C fs) μ1) (hb : EV X b ρ μ1 (.obj C gs) μ2) (hC : cn [.obj C fs, .obj C gs] μ2 (Bb kk) μ2) : EV X (.Compare a [.Eq] [b] pos) ρ μ (Bb kk) μ2 := by
  obtain ⟨f, fd, F, h1, h2, bi⟩ := M.ex
  exact ha.cmp (op_eqO F h1 h2 bi hr) (nomark _) hb (r2_eqO hC)
/-- isinstance(an object, its class) -/
theorem EV.isC (c : C8.InsC X.K C) (T : X.mg "isinstance" = none) (hm : X.mg n = some (.ref C)) (ho : EV X o ρ μ (.obj C fs) μ1) (hg : Gl X "isinstance" := by rfl) (hgT : Gl X n := by rfl) (hdb : (n == ("__debug__" : Str)) = false := by decide)
    (he : starEach [o, .Name n p2] X.env = (false, eval o X.env) :: starEach [.Name n p2] X.env := by rfl) (he2 : starEach [.Name n p2] X.env = (false, eval (.Name n p2) X.env) :: starEach [] X.env := by rfl) (hpl : (backTo pos (starEach [.Name n p2] X.env)).any (·.1) = false := by rfl) : EV X (.Call (.Name "isinstance" p) [o, .Name n p2] [] pos) ρ μ (Bb true) μ1 := by
  intro w σ H m s Q q
  refine ⟨_, pe_callB (C8.call_isC c) hg T (by decide +kernel) (pa_cons (p_ex (e := o)) (pa_cons (pe_glob (v := .ref C) hgT hm rfl hdb) pa_nil he2) he) (by decide) (by decide) he hpl, ?_⟩
  refine ho w σ H m s _ fun v H1 m1 f1 h1 => ?_
  obtain ⟨x, dx, ws, rfl, hx, hn, hd⟩ := h1
  exact ⟨x, dx, ws, rfl, (dl_some hx).2, q _ H1 m1 f1 (Dq.bl true)⟩
/-! three keywords, in the reverse order of the parameters -/
structure MthR (P : Program) (w : World) (K : PySem.W.Frag) (mg : Str → Option Value) (base : Heap) (C : Addr) (m : Str) (ks : List Str) (k : Nat) (ps : List Str) (c : Con) : Prop where
  ex : ∃ f fd, FnOk P w K mg base CX0 k f fd ps (SpV K ps c) ∧ Meth K C m f ∧ KBn K fd ps 1 ks (fun us ws => us ++ ws.reverse) (fun vs zs => vs ++ zs.reverse)
theorem vals_rev : ∀ {vs : List V} {us : List Value}, Vals vs us → Vals vs.reverse us.reverse
  | _, _, .nil => .nil
  | _, _, .cons h t => by
    rw [List.reverse_cons, List.reverse_cons]
    exact (vals_rev t).append (.cons h .nil)
theorem kbnR {K : PySem.W.Frag} {x qual : Str} {st : Stmt} {f : Addr} {fd : FuncData} {ps ks : List Str} {n : Nat} (F : Fun K x qual st f fd)
    (h : ∀ (kV doc pm : Value) (an : Option Addr) (cdv ct : Value) (us ws : List Value), us.length = n → ws.length = ks.length → bindArgs (PySem.W.fnOf x qual (defArgs st) (defBody st) (defScope st) .none kV doc pm an cdv ct) ⟨us, ks.zip ws⟩ = pure (ps.zip (us ++ ws.reverse))) : KBn K fd ps n ks (fun us ws => us ++ ws.reverse) (fun vs zs => vs ++ zs.reverse) := by
  obtain ⟨oc, od, kV, doc, pm, an, cdv, ct, osl, rfl, lk, hcd⟩ := F.ex
  exact ⟨fun s us ws _ l1 l2 => .of_eq (h kV doc pm an cdv ct us ws l1 l2), fun r1 r2 => r1.append (vals_rev r2)⟩
variable {e1 e2 e3 : Expr} {m : Str} {ks ps : List Str} {apos q1 q2 q3 : Pos} {k1 k2 k3 : Str} {r1 r2 r3 r : Ent} {μ4 μ5 : Sto}
theorem EV.methR {pl : Sem Bool} (ho : EV X o ρ μ (.obj C fs) μ1) (cl : Cls X.K C) (hm : MthR X.prog X.w X.K X.mg X.base C m [k1, k2, k3] k ps cn) (hr : Room k X.A) (hl : fs.lookup m = none) (h1 : EV X e1 ρ μ1 r1 μ2) (h2 : EV X e2 ρ μ2 r2 μ3) (h3 : EV X e3 ρ μ3 r3 μ4) (hC : cn [.obj C fs, r3, r2, r1] μ4 r μ5) (hps : ps.length = 4 := by rfl)
    (hall : (backToKw pos (keywordEach [⟨some k1, e1, q1⟩, ⟨some k2, e2, q2⟩, ⟨some k3, e3, q3⟩] X.env)).all (·.1.isSome) = true := by rfl) (hks : (backToKw pos (keywordEach [⟨some k1, e1, q1⟩, ⟨some k2, e2, q2⟩, ⟨some k3, e3, q3⟩] X.env)).filterMap (·.1) = [k1, k2, k3] := by rfl)
    (hpl : ((backTo pos (starEach [] X.env)).any (·.1) || (backToKw pos (keywordEach [⟨some k1, e1, q1⟩, ⟨some k2, e2, q2⟩, ⟨some k3, e3, q3⟩] X.env)).any (·.1.isNone)) = false := by rfl)
    (ht : eval (.Call (.Attribute o m apos) [] [⟨some k1, e1, q1⟩, ⟨some k2, e2, q2⟩, ⟨some k3, e3, q3⟩] pos) X.env = (do
      let ov ← eval o X.env
      standAt apos.atName
      let (f, first) ← holding [ov] (getMethod ov m pl)
      callWith pos f first (backTo pos (starEach [] X.env)) (backToKw pos (keywordEach [⟨some k1, e1, q1⟩, ⟨some k2, e2, q2⟩, ⟨some k3, e3, q3⟩] X.env))) := by rfl) : EV X (.Call (.Attribute o m apos) [] [⟨some k1, e1, q1⟩, ⟨some k2, e2, q2⟩, ⟨some k3, e3, q3⟩] pos) ρ μ r μ5 := by
  intro w σ H m0 s Q q
  obtain ⟨g, fd, F, me, bi⟩ := hm.ex
  refine ⟨fun σ H Q => EX X o σ H fun x H1 => ∃ a dx fs, x = .ref a ∧ H1 a = some (.ins C dx fs) ∧ fs.lookup m = none ∧ tCons (EX X e1) (tCons (EX X e2) (tCons (EX X e3) tNil)) σ H1 fun zs H2 => zs.length = 3 ∧ (SpV X.K ps cn) ([.ref a] ++ zs.reverse) H2 Q E0, ⟨fun pins s σ H Q I h => ?_⟩, ?_⟩
  · refine PySem.W.methodCall_KW (pl := pl) (thn ((p_ex (e := o)).run pins s σ H _ I h) fun u t1 ⟨x, H1, I1, rx, a, dx, fs, ex, ea, l, z⟩ => ?_) ht
    subst ex
    obtain rfl : u = Value.ref a := rx
    refine getmeth_ok I1 ea cl me l ?_
    refine PySem.W.callWith_KW0 (first := [.ref a]) (h₀ := X.base) I.ok.mod.kin me.kp hall ?_ hpl
    refine thn ((pk_cons (p_ex (e := e1)) (pk_cons (p_ex (e := e2)) (pk_cons (p_ex (e := e3)) pk_nil))).run pos pins t1 σ H1 _ I1 z) fun ws t2 ⟨zs, H2, I2, rz, l2, z2⟩ => ⟨I2.kIn, ?_⟩
    rw [hks]
    exact run_fnN (us := [.ref a]) (vs := [.ref a]) F hr bi pass0 I2 (.cons rfl .nil) rz rfl l2 z2
  · refine ho w σ H m0 s _ fun v H1 m1 f1 h1' => ?_
    have hobj := h1'
    obtain ⟨x, dx, ws, rfl, hx, hn, hd⟩ := h1'
    refine ⟨x, dx, ws, rfl, (dl_some hx).2, lk_none hn hl, ?_⟩
    refine h1 w σ H1 m1 (s.fr f1) _ fun v1 H2 m2 f2 w1 => ?_
    refine h2 w σ H2 m2 ((s.fr f1).fr f2) _ fun v2 H3 m3 f3 w2 => ?_
    refine h3 w σ H3 m3 (((s.fr f1).fr f2).fr f3) _ fun v3 H4 m4 f4 w3 => ?_
    exact ⟨rfl, w, μ4, [.obj C fs, r3, r2, r1], r, μ5, m4, .cons (r := .obj C fs) (((hobj.fr f2).fr f3).fr f4) (.cons w3 (.cons (w2.fr f4) (.cons ((w1.fr f3).fr f4) .nil))), hps.symm, hC, fun z H' m5 f5 w5 => q z H' m5 ((((f1.trans f2).trans f3).trans f4).trans f5) w5⟩
end
end J
/-! J19: a, *b = a list. -/
namespace JS
open PySem
section
variable {prog : Program} {w : World} {A : Around} {E : Value → Shared → Prop}
/-- the rest of a list, walked by its iterator -/
theorem rest_walks (it l : Addr) (items : Array Value) (i0 : Nat) (hh : A.handled = none) (hil : it ≠ l) : WalksS prog w A it [it, l] [it] (fun a b => a = b) (items.size - i0) (fun i v => items[i0 + i]? = some v) (fun i s => i ≤ items.size - i0 ∧ s.heap.IsListIter it l (i0 + i) ∧ s.heap.IsList l items) := by
  refine ⟨fun b hb => by simp at hb; simp [hb], fun _ => rfl, fun _ _ _ h1 h2 => h1.trans h2, fun i s h' tk st _ hk => ?_, fun i s Q E hi st hQ => ?_, fun s Q E st hQ => ?_, fun i s Q E st hQ => ?_⟩
  · obtain ⟨h0, ⟨o1, a1, b1⟩, ⟨o2, a2, b2⟩⟩ := st
    exact ⟨h0, ⟨o1, hk it (by simp) _ a1, b1⟩, ⟨o2, hk l (by simp) _ a2, b2⟩⟩
  · obtain ⟨h0, h1, h2⟩ := st
    have hlt : i0 + i < items.size := by omega
    refine wpAny_pyNext_list_item h1 h2 (x := items[i0 + i]) (by simp [hlt]) fun h' hi' sb => ?_
    refine hQ _ _ (by simp [hlt]) ⟨by omega, hi', h2.extBut sb.extBut (Ne.symm hil)⟩ ⟨fun b o hb e => sb.extBut b o (fun z => hb (by simp [z])) e, rfl, rfl, rfl, Nat.le_refl _⟩
  · obtain ⟨h0, h1, h2⟩ := st
    refine wpAny_pyNext_list_end hh h1 h2 (by
      have : items.size ≤ i0 + (items.size - i0) := by omega
      simp [this]) fun h' eb => ?_
    exact hQ _ ⟨fun b o hb e => eb b o (fun z => hb (by simp [z])) e, rfl, rfl, rfl, Nat.le_refl _⟩
  · exact wpAny_pyIter_listiter st.2.1 hQ
/-- a, *b of a list: the first, a new list of the others -/
theorem unpack_star {l : Addr} {items : Array Value} {x : Value} {s : Shared} {Q : List Value → Shared → Prop} (hh : A.handled = none) (hl : s.heap.IsList l items) (hx : items[0]? = some x) (hz : items.size ≤ sizeLine)
    (hQ : ∀ t : Shared, (∀ b o, s.heap.get? b = some o → t.heap.get? b = some o) → t.gens = s.gens → t.drawn = s.drawn → t.os = s.os → Q [x, .ref t.heap.objs.size] { t with heap := t.heap.push { cls := .type "list", data := .seq (items.toList.drop 1).toArray } }) :
    wpAny (model prog w) A (unpackItems (.ref l) 2 (some 1)) Q E s := by
  have hlt : l ≠ s.heap.objs.size := by
    obtain ⟨o, ho, _⟩ := hl
    exact Nat.ne_of_lt (Heap.lt_size ho)
  have hsz : 0 < items.size := (Array.getElem?_eq_some_iff.mp hx).1
  unfold unpackItems
  refine wpAny_bind ?_
  unfold notIterableAtAll
  refine wpAny_bind (wpAny_specialOf hl.typeIs F.slot_list_iter.lookup ?_)
  refine wpAny_pure ?_
  simp only [Bool.false_eq_true, if_false]
  refine wpAny_bind (wpAny_holding (wpAny_pyIter_list hl ?_))
  have hit : (s.heap.push ({ cls := .type "list_iterator", data := .fields #[.ref l, .int 0 0] } : Obj)).IsListIter s.heap.objs.size l 0 := ⟨_, Heap.get?_push_size _ rfl, rfl, rfl⟩
  refine wpAny_bind (wpAny_holding ?_)
  show wpAny _ _ (pyNext (.ref s.heap.objs.size) >>= _) _ _ _
  refine wpAny_bind (wpAny_pyNext_list_item hit (hl.push _) hx fun h1 hit1 sb1 => ?_)
  refine wpAny_bind (wpAny_holding (wpAny_pure (wpAny_pure ?_)))
  simp only [List.length_cons, List.length_nil, Nat.lt_irrefl, if_false, Nat.zero_add]
  have hl1 : h1.IsList l items := (hl.push _).extBut sb1.extBut hlt
  have W := rest_walks (prog := prog) (w := w) (A := A.in1) s.heap.objs.size l items 1 hh (Ne.symm hlt)
  have lt_of : ∀ {b : Addr} {o : Obj}, h1.get? b = some o → b < h1.objs.size := fun e => Heap.lt_size e
  refine wpAny_bind (wpAny_holding (wpAny_collect_iter (T := "list_iterator") (.inr (.inr (.inl rfl))) W (fun i t st => st.2.1.typeIs) ⟨Nat.zero_le _, hit1, hl1⟩ (fun b hb => ?_) (by simp) (fun t acc mv io => ?_) (by omega)))
  · obtain ⟨o1, a1, _⟩ := hit1
    obtain ⟨o2, a2, _⟩ := hl1
    rcases (by simpa using hb : b = s.heap.objs.size ∨ b = l) with rfl | rfl
    · exact lt_of a1
    · exact lt_of a2
  · have hacc : acc.toList = items.toList.drop 1 := by
      refine List.ext_getElem? fun i => ?_
      rw [List.getElem?_drop, Array.getElem?_toList, Array.getElem?_toList]
      by_cases hi : i < acc.size
      · have e1 : acc[i]? = some acc[i] := by simp [hi]
        rw [e1, io.2 i acc[i] e1]
      · have h2 := io.1
        have e1 : acc[i]? = none := by simp; omega
        have e2 : items[1 + i]? = none := by simp; omega
        rw [e1, e2]
    rw [if_neg (by omega)]
    refine wpAny_bind (wpAny_newObj_type ?_ ?_)
    · have ed : List.drop (acc.toList.length - (2 - 1 - 1)) acc.toList = [] := by simp
      have et : List.take (acc.toList.length - (2 - 1 - 1)) acc.toList = items.toList.drop 1 := by
        rw [← hacc]
        exact List.take_of_length_le (by simp)
      rw [ed, et]
      refine wpAny_pure (hQ t (fun b o e => ?_) mv.gens.symm mv.drawn mv.os)
      have hb : b ≠ s.heap.objs.size := Nat.ne_of_lt (Heap.lt_size e)
      exact mv.heap b o (by simpa using hb) (sb1.extBut b o hb (Heap.get?_push_of_some _ e))
    · show (List.take _ acc.toList).toArray.size ≤ sizeLine
      have h2 := io.1
      rw [List.size_toArray, List.length_take, Array.length_toList]
      omega
end
end JS
/-! J20: a, *b = .. as a target; rpartition; classmethods; a class in a local name; a try that lets nothing out. -/
namespace J
open PySem PySem.Spec
open PyProof.Rows L2
variable [KC]
theorem inv_as {X : Cx} {pins : List (Addr × Obj)} {σ : L2.St} {H : Hp} {s t : Shared} (I : Inv X pins σ H s) (h1 : t.heap = s.heap) (h2 : t.os = s.os) (h3 : t.gens = s.gens) : Inv X pins σ H t := by
  refine ⟨I.ok, h2.trans I.os, ?_, ?_, ?_, ?_, I.free, I.freeC, ?_, ?_, I.len⟩
  · rw [h3]; exact I.bare
  · rw [h1]; exact I.base
  · rw [h1]; exact I.loc
  · rw [h1]; exact I.cell
  · rw [h1]; exact I.pin
  · rw [h1]; exact I.hok
section
variable {X : Cx} {ρ ρ1 ρ2 : REnv} {μ μ1 μ2 μ3 : Sto} {a b c e o : Expr} {es tgs : List Expr} {pos p2 p sp apos cpos : Pos} {ds out : List PyData} {d : PyData} {i j : Int} {s t n : Str} {tg t1 t2 : Expr} {P : Out → Prop} {nn : Nat} {rest : List Stmt}
def gStar (t : TGs) : TG := fun v σ H Q => ∃ a x xs, v = .ref a ∧ H a = some (.lst (x :: xs)) ∧ ∀ p, H p = none → t [x, .ref p] σ (upd H p (.lst xs)) Q
theorem pg_star {k : Nat} {t : TGs} (hc : X.calm = true) (h : PGs X [t1, .Starred t2 sp] t) (e2 : (assignEach [t1, .Starred t2 sp] X.env).findIdx? (·.1) = some 1 := by rfl) (e3 : (assignEach [t1, .Starred t2 sp] X.env).length = 2 := by rfl) : PG X (.Tuple [t1, .Starred t2 sp] k pos) (gStar t) := by
  refine ⟨fun pins s σ H v u Q I r hw => ?_⟩
  obtain ⟨a, x, xs, e1, hl, hw⟩ := hw
  subst e1
  cases r
  obtain ⟨its, rv, pl, hz⟩ := I.list (SqL.of hl)
  obtain ⟨x', its', rfl, rx, rxs⟩ : ∃ x' its', its = x' :: its' ∧ RelV x x' ∧ Vals xs its' := by
    cases rv with
    | cons h1 h2 => exact ⟨_, _, rfl, h1, h2⟩
  rw [PyProof.Rows.assign_Tuple]
  refine wpAny_bind (wpAny_standAt ?_)
  unfold unpack
  rw [e2, e3]
  refine wpAny_bind (wpAny_holding (JS.unpack_star (x := x') (I.ok.hd hc) pl.isList (by simp) (by have := rv.length; simp at this hz ⊢; omega) fun t keep gens drawn os => ?_))
  have It : Inv X pins σ H t := inv_as (I.kept (t' := t.toks) keep) rfl os gens
  have hp : H t.heap.objs.size = none := It.hok.fresh (Nat.le_refl _)
  have In : Inv X pins σ (upd H t.heap.objs.size (.lst xs)) { t with heap := t.heap.push { cls := .type "list", data := .seq (its'.toArray) } } := It.laid (t' := t.toks) (fun b u e => Heap.get?_push_of_some _ e) (Nat.le_refl _) ⟨by have := hz; have := rxs.length; simp at *; omega, its', 0, rxs, Heap.get?_push_size _ rfl⟩
  have := h.run pins _ σ _ [x, .ref t.heap.objs.size] [x', .ref t.heap.objs.size] Q In (.cons rx (.cons rfl .nil)) (hw _ hp)
  simpa using this
theorem pgs_star {t : TG} (h : PG X t2 t) : PGs X [.Starred t2 sp] (gCons t gNil) := by
  refine ⟨fun pins s σ H vs us Q I r hw => ?_⟩
  obtain ⟨v, vr, e1, hw⟩ := hw
  subst e1
  cases r with
  | cons r rr =>
    show wpAny _ _ (assignInOrder [assign t2 X.env] _) _ _ _
    refine assignInOrder_cons (thn (h.run pins s σ H _ _ _ I r hw) fun _ s1 ⟨σ1, H1, I1, q1⟩ => ?_)
    exact pgs_nil.run pins s1 σ1 H1 _ _ Q I1 rr q1
theorem GW.star {k : Nat} (h1 : GW X t1 d ρ μ ρ1 μ) (h2 : GW X t2 (.list ds) ρ1 μ ρ2 μ) (hc : X.calm = true := by rfl) (e2 : (assignEach [t1, .Starred t2 sp] X.env).findIdx? (·.1) = some 1 := by rfl) (e3 : (assignEach [t1, .Starred t2 sp] X.env).length = 2 := by rfl)
    (e4 : (assignEach [t1, .Starred t2 sp] X.env).map (·.2) = assign t1 X.env :: (assignEach [.Starred t2 sp] X.env).map (·.2) := by rfl) : GW X (.Tuple [t1, .Starred t2 sp] k pos) (.list (d :: ds)) ρ μ ρ2 μ := by
  intro w σ H v m s hv Q q
  have hv' : Dq (dl H w.all) v (.list (d :: ds)) := hv
  cases hv' with
  | lst ha hd =>
    cases hd with
    | cons hd1 hd2 =>
      rename_i a v1 vs
      refine ⟨_, pg_star hc (pgs_cons (p_gx (e := t1)) (pgs_star (p_gx (e := t2))) e4) e2 e3, ?_⟩
      refine ⟨a, v1, vs, rfl, (dl_some ha).2, fun p hp => ⟨v1, [.ref p], rfl, ?_⟩⟩
      have f0 : Fr w.α H (upd H p (.lst vs)) := Fr.of_same (Same.new hp)
      have hl : Val X.K (upd H p (.lst vs)) w (.ref p) (Ls ds) := val_lst m hp hd2
      refine h1 w σ _ v1 (m.new hp) (s.fr f0) (dq_mono f0.all _ _ hd1) _ fun σ1 H1 m1 f1 s1 => ?_
      refine ⟨.ref p, [], rfl, ?_⟩
      exact h2 w σ1 H1 _ m1 s1 (hl.fr f1) _ fun σ2 H2 m2 f2 s2 => ⟨rfl, q σ2 H2 m2 ((f0.trans f1).trans f2) s2⟩
/-- rpartition -/
theorem mt_rpart : MtR X "str.rpartition" (fun x xs H Q => ∃ a b, x = .str a ∧ xs = [.str b] ∧ (b.length == 0) = false ∧ a.length ≤ sizeLine ∧ ∀ p, H p = none → Q (.ref p) (upd H p (.tup [.str (Txt.rpartition a b).1, .str (Txt.rpartition a b).2.1, .str (Txt.rpartition a b).2.2]))) := by
  intro pins s0 σ H x xs v us Q I rx rs hh
  obtain ⟨aa, bb, e1, e2, hb, hz, hh⟩ := hh
  subst e1
  subst e2
  obtain ⟨ta, rfl⟩ := rx
  obtain ⟨u, rfl, ru⟩ := vals1 rs
  obtain ⟨tb, rfl⟩ := ru
  have M0 := meets_str_rpartition aa bb ta tb hb hz
  refine call_meets (F.slot_str_rpartition) (typeIs_str _ _ _) (F.entry_str_rpartition)
    (F.args_str_rpartition_2 _ _) M0 ?_
  unfold Txt.rpartition at hh
  revert hh
  cases Builtin.Str.lastOccurrence aa bb 0 aa.length with
  | none => exact fun hh => laid_parts I hh
  | some k => exact fun hh => laid_parts I hh
theorem EV.rpart (ho : EV X o ρ μ (Ss s) μ1) (he : EV X e ρ μ1 (Ss t) μ2) (h1 : (t.length == 0) = false) (h2 : s.length ≤ sizeLine)
    (hs : starEach [e] X.env = [(false, eval e X.env)] := by rfl) (hbase : attributeBase o "rpartition" X.env (eval o X.env) = eval o X.env := by rfl) (hline : (apos.endLine == pos.line) = true := by rfl) :
    EV X (.Call (.Attribute o "rpartition" apos) [e] [] pos) ρ μ (Tp [.str (Txt.rpartition s t).1, .str (Txt.rpartition s t).2.1, .str (Txt.rpartition s t).2.2]) μ2 := by
  refine EV.m1 F.slot_str_rpartition F.type_str_rpartition mt_rpart ho he (fun w H u m hu Q q => ?_) hs hbase hline
  cases hu
  exact ⟨_, _, rfl, rfl, h1, h2, new_tup m (.cons (.str _) (.cons (.str _) (.cons (.str _) .nil))) q⟩
end
/-! ### classmethods -/
structure CMth (P : Program) (w : World) (K : PySem.W.Frag) (mg : Str → Option Value) (base : Heap) (C : Addr) (m : Str) (k : Nat) (c : Con) : Prop where
  ex : ∃ mc p g fd, ClX.CRead K C mc ∧ ClX.CMet K C mc m p g ∧ FnOk P w K mg base CX0 k g fd ["cls", "text"] (SpV K ["cls", "text"] c) ∧ Binds K fd ["cls", "text"] [] ∧ KBn K fd ["cls", "text"] 1 ["text"] (fun us ws => us ++ ws) (fun vs zs => vs ++ zs)
section
variable {X : Cx} {ρ : REnv} {μ μ1 μ2 μ3 : Sto} {e o : Expr} {pos p apos kpos : Pos} {n m : Str} {C : Addr} {k : Nat} {cn : Con} {r z : Ent} {mc : Value} {pm g : Addr} {fd : FuncData} {sp : Sp}
theorem run_cmK {pins : List (Addr × Obj)} {σ : L2.St} {H : Hp} {s : Shared} {q : Addr} {Q : VK} {ws : List Value} {zs : List V} {ps ks : List Str} (F : FnOk X.prog X.w X.K X.mg X.base CX0 k g fd ps sp) (hb : KBn X.K fd ps 1 ks (fun us ws => us ++ ws) (fun vs zs => vs ++ zs)) (hr : Room k X.A)
    (I : Inv X ((q, PySem.W.methodObj (.ref g) (.ref C)) :: pins) σ H s) (rz : Vals zs ws) (l2 : zs.length = ks.length) (h : sp (.ref C :: zs) H Q E0) : wpAny (model X.prog X.w) X.A (call (.ref q) [] (ks.zip ws)) (EP X pins σ Q) X.xe s := by
  have rr : Vals (V.ref C :: zs) (Value.ref C :: ws) := .cons rfl rz
  have z0 : wpAny (model X.prog X.w) X.A (call (.ref q) [] (ks.zip ws)) (EP X ((q, PySem.W.methodObj (.ref g) (.ref C)) :: pins) σ Q) X.xe s := by
    refine wpAny_call (PySem.W.method_call (ClX.pin_at I) (codeAny_mono (F.run X.A X.stack s H ⟨[.ref C], ks.zip ws⟩ (.ref C :: ws) (.ref C :: zs) Q E0 hr I.env0 (hb.to s [.ref C] ws I.kIn rfl (rz.length.symm.trans l2)) rr h) fun r s' hq => ?_))
    cases r with
    | error ee => exact pass0 _ σ H s ee s' I hq
    | ok fl =>
      cases fl with
      | ret u => exact I.after hq
      | next => exact hq.elim
      | brk => exact hq.elim
      | cont => exact hq.elim
  exact thn z0 fun _ _ y => ClX.unpinE y
def tCMK (C : Addr) (sp : Sp) (ta : TE) (tk : TA) : TE := fun σ H Q => ta σ H fun x H1 => x = .ref C ∧ tk σ H1 fun zs H2 => zs.length = 1 ∧ sp (.ref C :: zs) H2 Q E0
theorem pe_cmethK {pl : Sem Bool} {ta : TE} {tk : TA} {ps : List Str} {kw : Str} (he : PE X o ta) (rd : ClX.CRead X.K C mc) (c : ClX.CMet X.K C mc m pm g) (F : FnOk X.prog X.w X.K X.mg X.base CX0 k g fd ps sp) (hb : KBn X.K fd ps 1 [kw] (fun us ws => us ++ ws) (fun vs zs => vs ++ zs)) (hr : Room k X.A) (hkw : PK X [⟨some kw, e, kpos⟩] tk)
    (hall : (backToKw pos (keywordEach [⟨some kw, e, kpos⟩] X.env)).all (·.1.isSome) = true := by rfl) (hks : (backToKw pos (keywordEach [⟨some kw, e, kpos⟩] X.env)).filterMap (·.1) = [kw] := by rfl)
    (hpl : ((backTo pos (starEach [] X.env)).any (·.1) || (backToKw pos (keywordEach [⟨some kw, e, kpos⟩] X.env)).any (·.1.isNone)) = false := by rfl)
    (ht : eval (.Call (.Attribute o m apos) [] [⟨some kw, e, kpos⟩] pos) X.env = (do
      let ov ← eval o X.env
      standAt apos.atName
      let (f, first) ← holding [ov] (getMethod ov m pl)
      callWith pos f first (backTo pos (starEach [] X.env)) (backToKw pos (keywordEach [⟨some kw, e, kpos⟩] X.env))) := by rfl) : PE X (.Call (.Attribute o m apos) [] [⟨some kw, e, kpos⟩] pos) (tCMK C sp ta tk) := by
  refine ⟨fun pins s σ H Q I h => ?_⟩
  refine PySem.W.methodCall_KW (pl := pl) (thn (he.run pins s σ H _ I h) fun u s1 ⟨x, H1, I1, rx, ex, q⟩ => ?_) ht
  subst ex
  obtain rfl : u = Value.ref C := rx
  refine ClX.getmethcm_ok I1 rd c fun s2 I2 => ?_
  refine PySem.W.callWith_of (P := PySem.W.MethP X.K s1.heap.objs.size g (.ref C)) hpl (PySem.W.keeps_M c.fi) (evalArgs_kw2_nil hall ?_)
  refine thn (hkw.run pos _ s2 σ H1 _ I2 q) fun ws s3 ⟨zs, H2, I3, rz, l2, q2⟩ => ⟨⟨ClX.pin_at I3, I3.kIn⟩, ?_⟩
  rw [hks]
  exact run_cmK F hb hr I3 rz l2 q2
theorem EV.cmeth {pl : Sem Bool} (M : CMth X.prog X.w X.K X.mg X.base C m k cn) (hm : X.mg n = some (.ref C)) (hr : Room k X.A) (ha : EV X e ρ μ r μ1) (hC : cn [.raw (.ref C), r] μ1 z μ2) (hg : Gl X n := by rfl) (hdb : (n == ("__debug__" : Str)) = false := by decide)
    (hs : starEach [e] X.env = (false, eval e X.env) :: starEach [] X.env := by rfl) (hpl : (backTo pos (starEach [] X.env)).any (·.1) = false := by rfl)
    (ht : eval (.Call (.Attribute (.Name n p) m apos) [e] [] pos) X.env = (do
      let ov ← eval (.Name n p) X.env
      standAt apos.atName
      let (f, first) ← holding [ov] (getMethod ov m pl)
      callWith pos f first (backTo pos (starEach [e] X.env)) (backToKw pos (keywordEach [] X.env))) := by rfl) : EV X (.Call (.Attribute (.Name n p) m apos) [e] [] pos) ρ μ z μ2 := by
  intro w σ H m0 s Q q
  obtain ⟨mc, pm, g, fd, rd, cm, F, bi, _⟩ := M.ex
  refine ⟨_, ClX.pe_cmeth (E := E0) (pe_glob (v := .ref C) hg hm rfl hdb) rd cm (F.raw bi .nil) hr pass0 (pa_cons (p_ex (e := e)) pa_nil hs) hs hpl ht, ?_⟩
  refine ⟨rfl, ?_⟩
  refine ha w σ H m0 s _ fun v H1 m1 f1 h1 => ?_
  exact ⟨w, μ1, [.raw (.ref C), r], z, μ2, m1, .cons (r := .raw (.ref C)) rfl (.cons h1 .nil), rfl, hC, fun t H2 m2 f2 h2 => q t H2 m2 (f1.trans f2) h2⟩
theorem EV.cmethK {pl : Sem Bool} (M : CMth X.prog X.w X.K X.mg X.base C m k cn) (hm : X.mg n = some (.ref C)) (hr : Room k X.A) (ha : EV X e ρ μ r μ1) (hC : cn [.raw (.ref C), r] μ1 z μ2) (hg : Gl X n := by rfl) (hdb : (n == ("__debug__" : Str)) = false := by decide)
    (hall : (backToKw pos (keywordEach [⟨some "text", e, kpos⟩] X.env)).all (·.1.isSome) = true := by rfl) (hks : (backToKw pos (keywordEach [⟨some "text", e, kpos⟩] X.env)).filterMap (·.1) = [("text" : Str)] := by rfl)
    (hpl : ((backTo pos (starEach [] X.env)).any (·.1) || (backToKw pos (keywordEach [⟨some "text", e, kpos⟩] X.env)).any (·.1.isNone)) = false := by rfl)
    (ht : eval (.Call (.Attribute (.Name n p) m apos) [] [⟨some "text", e, kpos⟩] pos) X.env = (do
      let ov ← eval (.Name n p) X.env
      standAt apos.atName
      let (f, first) ← holding [ov] (getMethod ov m pl)
      callWith pos f first (backTo pos (starEach [] X.env)) (backToKw pos (keywordEach [⟨some "text", e, kpos⟩] X.env))) := by rfl) : EV X (.Call (.Attribute (.Name n p) m apos) [] [⟨some "text", e, kpos⟩] pos) ρ μ z μ2 := by
  intro w σ H m0 s Q q
  obtain ⟨mc, pm, g, fd, rd, cm, F, _, bk⟩ := M.ex
  refine ⟨_, pe_cmethK (pe_glob (v := .ref C) hg hm rfl hdb) rd cm F bk hr (pk_cons (p_ex (e := e)) pk_nil) hall hks hpl ht, ?_⟩
  refine ⟨rfl, ?_⟩
  refine ha w σ H m0 s _ fun v H1 m1 f1 h1 => ?_
  exact ⟨rfl, w, μ1, [.raw (.ref C), r], z, μ2, m1, .cons (r := .raw (.ref C)) rfl (.cons h1 .nil), rfl, hC, fun t H2 m2 f2 h2 => q t H2 m2 (f1.trans f2) h2⟩
/-- a class in a local name, called -/
theorem pe_makeL {CX : CXT} {i : Nat} {f : Addr} {ps : List Str} {ds : List Value} {dvs : List V} {E : XK} {es : List Expr} {t : TA} (M : Mk X.K C f) (F : FnOk X.prog X.w X.K X.mg X.base CX k f fd ps sp) (hr : Room (k + 1) X.A) (hN : X.N[i]? = some n) (hv : Vis X.env.scope n) (hb : Binds X.K fd ps ds) (hd : Vals dvs ds) (hx : Passes CX X E)
    (ha : PA X (e :: es) t) (hdb : (n == ("__debug__" : Str)) = false := by decide) (hcd : (n == ("__classdict__" : Str)) = false := by decide) (he : starEach (e :: es) X.env = (false, eval e X.env) :: starEach es X.env := by rfl) (hpl : (backTo pos (starEach es X.env)).any (·.1) = false := by rfl) :
    PE X (.Call (.Name n p) (e :: es) [] pos) (fun σ H Q => σ[i]? = some (some (.ref C)) ∧ tMake C sp dvs E t σ H Q) := by
  refine ⟨fun pins s σ H Q I h => ?_⟩
  obtain ⟨h0, h⟩ := h
  refine wpAny_Call_Name_kw (thn ((pe_var (pos := p) hN hv hdb hcd).run pins s σ H (fun v H1 => v = .ref C ∧ H1 = H) I ⟨.ref C, h0, rfl, rfl⟩) fun u s1 ⟨v, H1, I1, r1, q1⟩ => ?_)
  obtain ⟨rfl, rfl⟩ := q1
  obtain rfl : u = Value.ref C := r1
  refine PySem.W.callWith_K (h₀ := X.base) I.ok.mod.kin M.kp (thn (ha.run pos pins s1 σ _ _ I1 h) fun us s2 ⟨vs, H2, I2, r, q⟩ => ⟨I2.kIn, ?_⟩) he hpl
  exact run_make M F hr hb hd hx I2 r q
theorem EV.makeL {i : Nat} {nb f : Str} {ps : List Str} {G : List PyData → Prop} {gs : List PyData} (M : Mak X.prog X.w X.K X.mg X.base nb C f k ps G) (hr : Room (k + 1) X.A) (h0 : ρ[i]? = some (some (.raw (.ref C)))) (ha : EV X e ρ μ (Tp gs) μ1) (hG : G gs)
    (hN : X.N[i]? = some n := by rfl) (hv : Vis X.env.scope n := by first | exact .inl rfl | exact .inr (.inl rfl) | exact .inr (.inr rfl)) (hs : starEach [e] X.env = (false, eval e X.env) :: starEach [] X.env := by rfl) (hdb : (n == ("__debug__" : Str)) = false := by decide) (hcd : (n == ("__classdict__" : Str)) = false := by decide)
    (hpl : (backTo pos (starEach [] X.env)).any (·.1) = false := by rfl) : EV X (.Call (.Name n p) [e] [] pos) ρ μ (.obj C [(f, .tuple gs)]) μ1 := by
  intro w σ H m s Q q
  obtain ⟨g, fd, F, mk, hm, bi⟩ := M.ex
  refine ⟨_, pe_makeL (E := E0) mk F hr hN hv bi .nil pass0 (pa_cons (p_ex (e := e)) pa_nil hs) hdb hcd hs hpl, ?_⟩
  obtain ⟨v0, hv0, rfl⟩ := s.at_ i _ h0
  refine ⟨hv0, ?_⟩
  refine ha w σ H m s _ fun v H1 m1 f1 h1 => ?_
  intro x dx hx hdx hne
  refine ⟨x, dx, v, wk' w x, μ1, gs, rfl, upd_same, List.mem_cons_self, make_mem m1 hx hdx hne, make_val h1 hx hdx, hG, fun H2 m2 f2 h2 => ⟨rfl, ?_⟩⟩
  exact make_end (Q := Q) (v := v) m1 hx hdx hne (fun u H' mm ff hh => q u H' mm (f1.trans ff) hh) m2 f2 h2
end
/-- a try whose body lets nothing out -/
theorem ST.thru {X : Cx} {W : WX} {n : Nat} {body rest : List Stmt} {hd : ExceptHandler} {hds : List ExceptHandler} {ρ : REnv} {μ : Sto} {P : Out → Prop} {pos : Pos} (h : ST X.nox W n body ρ μ (thenP X W n rest P)) (hrs : ∀ ρ μ C fs, ¬ thenP X W n rest P (.rse ρ μ C fs)) : ST X W n (.Try body (hd :: hds) [] [] pos :: rest) ρ μ P := by
  intro w σ H D hn m s q
  refine ⟨_, pss_cons (ps_try_thru0 (p_sx (X := X.nox) (e := body))) p_sx, ?_⟩
  refine h w σ H _ hn m s fun o ho => ?_
  cases o with
  | nx ρ' μ' =>
    intro β σ' H2 m2 s2 f2 hb
    exact ho (w.add β) σ' H2 D (by simp; omega) m2 s2 fun o ho => Fin.grow (β := β) (q o ho) hn f2 hb
  | ret r μ' => exact q _ ho
  | brk ρ' μ' => exact q _ ho
  | ct ρ' μ' => exact q _ ho
  | rse ρ' μ' C fs => exact (hrs _ _ _ _ ho).elim
end J
/-! J21: != of objects whose class has an __eq__ of its own alone. -/
namespace JN
open PySem PySem.Spec PyProof.Rows
open Builtin
section
variable {prog : Program} {w : World} {A : Around} {E : Value → Shared → Prop} {s : Shared} {K : PySem.W.Frag} {x C f : Addr} {ox : Obj} {od : Option Obj} {b tb : Value}
structure NeC (K : PySem.W.Frag) (C : Addr) : Prop where
  ne : PySem.W.findIn K (.ref C) "__ne__" = some (some (.builtin "object.__ne__"))
  sub : PySem.W.subIn K (.ref C) (.type "object") = some true
theorem special_ne {M : Model} {Q : Option Value → Shared → Prop} (X : K.In s.heap) (I : PySem.W.InstAt s.heap x ox C od) (N : NeC K C)
    (h : wpAny M A (call (.builtin "object.__ne__") [.ref x, b]) (fun v => Q (some v)) E s) : wpAny M A (callSpecialIfBound? (.ref x) "__ne__" [b]) Q E s := by
  simp only [callSpecialIfBound?, bindSpecialIfBound?]
  refine wpAny_holding ?_
  refine wpAny_bind (wpAny_bind (wpAny_bind ?_))
  refine I.type.here ?_
  refine (PySem.W.looks_findIn X N.ne).here ?_
  simp only [PySem.F.cmp_object.ne.bind]
  refine wpAny_bind (wpAny_askSetting (wpAny_ite ?_))
  have fin : wpAny M A (call (.builtin "object.__ne__") ([.ref x] ++ [b]) >>= fun v => pure (some v)) Q E s := by
    refine wpAny_bind (wpAny_mono h ?_ fun _ _ z => z)
    exact fun v t z => wpAny_pure z
  split
  · exact wpAny_bind (wpAny_pure (wpAny_pure fin))
  · refine wpAny_tryCatch ?_
    exact wpAny_bind (wpAny_pure (wpAny_pure fin))
theorem check_ne {M : Model} {Q : Unit → Shared → Prop} (X : K.In s.heap) (I : PySem.W.InstAt s.heap x ox C od) (N : NeC K C) (hq : Q () s) : wpAny M A (checkBuiltinCall "object.__ne__" ⟨[.ref x, b], []⟩) Q E s := by
  simp only [checkBuiltinCall, PySem.F.cmpKind_ne, PySem.F.cmpSplit_ne]
  refine wpAny_bind ?_
  unfold isInstance
  refine wpAny_bind (I.type.here ?_)
  refine (PySem.W.looks_subIn X N.sub).here ?_
  simp only [if_true, Bool.not_true, Bool.false_eq_true, if_false]
  have ha := PySem.F.cmpArgs_ne (.ref x) b
  unfold argsOk at ha
  cases hsig : Manifest.signature? "object.__ne__" with
  | none => exact wpAny_pure hq
  | some sig =>
    rw [hsig] at ha
    have h2 : Bind.checkArgs "object.__ne__" sig ⟨[.ref x, b], []⟩ = pure () := ha
    show wpAny M A (Bind.checkArgs "object.__ne__" sig ⟨[.ref x, b], []⟩) Q E _
    rw [h2]
    exact wpAny_pure hq
theorem entry_ne (hu : A.units < PySem.cLine) (X : K.In s.heap) (I : PySem.W.InstAt s.heap x ox C od) (hs : PySem.W.findIn K (.ref C) "__eq__" = some (some (.ref f))) (hf : PySem.W.isFn K (.ref f) = true) {Q : Fin → Shared → Prop}
    (h : wpAny (model prog w) A (call (.ref f) [.ref x, b]) (fun v s' => ∃ k, v = .bool k ∧ Q (.done (.ret (.bool (!k)))) s') E s) : wpAny (model prog w) A (Builtin.«object.__ne__» ⟨[.ref x, b], []⟩) Q E s := by
  unfold Builtin.«object.__ne__»
  repeat (first
    | with_reducible refine wpAny_cRoomFor hu ?_
    | (refine wpAny_bind (m := callSpecialIfBound? (.ref x) (Str.ofString "__eq__") [b]) (PySem.W.ifBound_K X I hs hf (wpAny_mono h (fun r s' hr => by
          obtain ⟨kk, rfl, hq⟩ := hr
          repeat (first | exact hq | exact wpAny_pure hq | exact wpAny_truthy_bool hq | (refine wpAny_bind (m := truthy (.bool _)) (wpAny_truthy_bool ?_)) | wp_step)) fun _ _ z => z)))
    | wp_step)
/-- a != b, a such an object: the not of what its __eq__ answers -/
theorem ne_cmp {h₀ : Heap} {L : Addr} {m : Str → Option Value} {Q : Value → Shared → Prop} (hu : A.units + 1 < PySem.cLine) (F : PyProof.Rows.Fr h₀ L s.heap m) (X₀ : K.In h₀) (I : PySem.W.InstAt s.heap x ox C od) (hb : PySem.W.Looks (model prog w) s.heap (typeOf b) tb) (hn : PySem.W.notFirst K C tb = true) (N : NeC K C)
    (hs : PySem.W.findIn K (.ref C) "__eq__" = some (some (.ref f))) (hf : PySem.W.isFn K (.ref f) = true)
    (h : wpAny (model prog w) A.in1 (call (.ref f) [.ref x, b]) (fun v s' => ∃ k, v = .bool k ∧ Q (.bool (!k)) s') E s) : wpAny (model prog w) A (richCompare .NotEq (.ref x) b) Q E s := by
  have X := X₀.keeps F.keep
  have one : wpAny (model prog w) A (tryCompare (.ref x) "__ne__" b) (fun r s' => ∃ v, r = some v ∧ Q v s') E s := by
    unfold tryCompare
    refine wpAny_bind (special_ne X I N ?_)
    refine wpAny_call (codeAny_call_builtin PySem.F.cmp_object.ne.plain PySem.F.cmpEntry_ne (check_ne X I N ?_))
    refine entry_ne (A := A.in1) (by show A.units + 1 < PySem.cLine; exact hu) X I hs hf (wpAny_mono h (fun v t z => ?_) fun _ _ z => z)
    obtain ⟨k, rfl, hq⟩ := z
    first
      | exact ⟨k, rfl, wpAny_pure ⟨_, rfl, hq⟩⟩
      | exact ⟨k, rfl, wpAny_pure (wpAny_pure ⟨_, rfl, hq⟩)⟩
      | exact ⟨k, rfl, ⟨_, rfl, hq⟩⟩
  unfold richCompare
  simp only [oneThing_ref]
  refine wpAny_holding ?_
  refine wpAny_bind (wpAny_cRoomFor (Nat.lt_of_succ_lt hu) ?_)
  rw [cmpInfo_NotEq]
  dsimp only
  refine wpAny_bind (I.type.here ?_)
  refine wpAny_bind (hb.here ?_)
  have fin : ∀ {r : Option Value} {s' : Shared}, (∃ v, r = some v ∧ Q v s') → ∃ v, r = some v ∧ Q v s' := fun z => z
  split
  · rename_i q
    have e : PySem.W.subIn K tb (.ref C) = some false := by
      rcases Bool.or_eq_true_iff.mp hn with e | e
      · rw [beq_iff_eq.mp e] at q
        simp at q
      · exact beq_iff_eq.mp e
    refine wpAny_bind ((PySem.W.looks_subIn X e).here ?_)
    simp only [Bool.false_eq_true, if_false]
    refine wpAny_bind (wpAny_mono one (fun r s' z => ?_) fun _ _ z => z)
    obtain ⟨v, rfl, hq⟩ := z
    exact wpAny_pure hq
  · refine wpAny_bind (wpAny_pure ?_)
    simp only [Bool.false_eq_true, if_false]
    refine wpAny_bind (wpAny_mono one (fun r s' z => ?_) fun _ _ z => z)
    obtain ⟨v, rfl, hq⟩ := z
    exact wpAny_pure hq
end
end JN
namespace J
open PySem PySem.Spec
open PyProof.Rows L2
variable [KC]
section
variable {X : Cx} {ρ : REnv} {μ μ1 μ2 μ3 : Sto} {a b o : Expr} {pos p p2 : Pos} {C : Addr} {fs gs : List (Str × PyData)} {k : Nat} {cn : Con} {n : Str}
def rNeO (C : Addr) (sp : Sp) : R2 := fun x y H Q => ∃ c d dx dy fs gs, x = .ref c ∧ y = .ref d ∧ H c = some (.ins C dx fs) ∧ H d = some (.ins C dy gs) ∧ sp [.ref c, .ref d] H (fun v H' => ∃ kk, v = .bl kk ∧ Q (.bl (!kk)) H') E0
theorem op_neO {f : Addr} {fd : FuncData} {sp : Sp} (F : FnOk X.prog X.w X.K X.mg X.base CX0 k f fd ["self", "other"] sp) (h1 : PySem.W.findIn X.K (.ref C) "__eq__" = some (some (.ref f))) (h2 : PySem.W.isFn X.K (.ref f) = true) (bi : Binds X.K fd ["self", "other"] []) (hr : Room (k + 1) X.A) (N : JN.NeC X.K C) : OpR X (compareOp .NotEq) (rNeO C sp) := by
  intro pins s σ H x y v u Q I rx ry hq
  obtain ⟨c, d, dx, dy, fs, gs, rfl, rfl, hc, hd, hsp⟩ := hq
  obtain rfl : v = Value.ref c := rx
  obtain rfl : u = Value.ref d := ry
  obtain ⟨oc, J1⟩ := ins_at I hc
  obtain ⟨od, J2⟩ := ins_at I hd
  obtain ⟨mm, Fr0⟩ := I.fr
  show wpAny (model X.prog X.w) X.A (richCompare .NotEq (.ref c) (.ref d)) (EP X pins σ Q) X.xe s
  refine JN.ne_cmp (tb := .ref C) (by have := hr.un; show X.A.units + 1 < PySem.cLine; omega) Fr0 I.mod.kin J1 J2.type (by simp [PySem.W.notFirst]) N h1 h2 (own_run2 F (Room.in1 hr) I.ok.frames bi I hsp fun u t z => ?_)
  obtain ⟨z1, H', I', r1, kk, rfl, hq⟩ := z
  obtain rfl : u = Value.bool kk := r1
  exact ⟨kk, rfl, .bl (!kk), H', I', rfl, hq⟩
theorem r2_neO {kk : Bool} (hC : cn [.obj C fs, .obj C gs] μ (Bb kk) μ) {K : PySem.W.Frag} : R2V K (rNeO C (SpV K ["self", "other"] cn)) (.obj C fs) (.obj C gs) (Bb (!kk)) μ := by
  intro w H v u m h1 h2 Q q
  have h1' := h1
  have h2' := h2
  obtain ⟨x, dx, ws, rfl, hx, hn, hd⟩ := h1
  obtain ⟨y, dy, us, rfl, hy, hm, he⟩ := h2
  refine ⟨x, y, dx, dy, ws, us, rfl, rfl, (dl_some hx).2, (dl_some hy).2, w, μ, _, _, _, m, .cons h1' (.cons h2' .nil), rfl, hC, fun t H' m' f' ht => ?_⟩
  cases ht
  exact ⟨kk, rfl, q _ H' m' f' (Dq.bl _)⟩
theorem cNeO {kk : Bool} (M : OwnB X.prog X.w X.K X.mg X.base C "__eq__" k cn) (N : JN.NeC X.K C) (hr : Room (k + 1) X.A) (ha : EV X a ρ μ (.obj C fs) μ1) (hb : EV X b ρ μ1 (.obj C gs) μ2) (hC : cn [.obj C fs, .obj C gs] μ2 (Bb kk) μ2) : EV X (.Compare a [.NotEq] [b] pos) ρ μ (Bb (!kk)) μ2 := by
  obtain ⟨f, fd, F, h1, h2, bi⟩ := M.ex
  exact ha.cmp (op_neO F h1 h2 bi hr N) (nomark _) hb (r2_neO hC)
theorem tEqO {kk : Bool} (M : OwnB X.prog X.w X.K X.mg X.base C "__eq__" k cn) (hr : Room k X.A) (ha : EV X a ρ μ (.obj C fs) μ1) (hb : EV X b ρ μ1 (.obj C gs) μ2) (hC : cn [.obj C fs, .obj C gs] μ2 (Bb kk) μ2) : TV X (.Compare a [.Eq] [b] pos) ρ μ kk μ2 := by
  obtain ⟨f, fd, F, h1, h2, bi⟩ := M.ex
  exact TV.cmp (op_eqO F h1 h2 bi hr) (nomark _) ha hb (r2_eqO hC)
theorem tNeO {kk : Bool} (M : OwnB X.prog X.w X.K X.mg X.base C "__eq__" k cn) (N : JN.NeC X.K C) (hr : Room (k + 1) X.A) (ha : EV X a ρ μ (.obj C fs) μ1) (hb : EV X b ρ μ1 (.obj C gs) μ2) (hC : cn [.obj C fs, .obj C gs] μ2 (Bb kk) μ2) : TV X (.Compare a [.NotEq] [b] pos) ρ μ (!kk) μ2 := by
  obtain ⟨f, fd, F, h1, h2, bi⟩ := M.ex
  exact TV.cmp (op_neO F h1 h2 bi hr N) (nomark _) ha hb (r2_neO hC)
end
end J
/-! J22: promises that leave open what the lists hold in the end. -/
namespace J
open PySem PySem.Spec
open PyProof.Rows L2
variable [KC]
abbrev ConP := List Ent → Sto → (Ent → Sto → Prop) → Prop
def SpP (K : PySem.W.Frag) (ps : List Str) (C : ConP) : Sp := fun vs H Q _ => ∃ w μ rs Φ, Mem K H w μ ∧ Vas K H w vs rs ∧ rs.length = ps.length ∧ C rs μ Φ ∧ ∀ r μ' v H', Φ r μ' → Mem K H' w μ' → Fr w.α H H' → Val K H' w v r → Q v H'
structure CalGP (P : Program) (w : World) (K : PySem.W.Frag) (mg : Str → Option Value) (base : Heap) (n : Str) (k : Nat) (ps : List Str) (C : ConP) : Prop where
  ex : ∃ f fd, FnG P w K mg base k f fd ps (SpP K ps C) ∧ mg n = some (.ref f) ∧ PySem.W.keepIn K (.ref f) = true ∧ Binds K fd ps []
def PostP (Φ : Ent → Sto → Prop) : Out → Prop
  | .ret r μ' => Φ r μ'
  | _ => False
theorem ST.retQ {X : Cx} {W : WX} {n : Nat} {ρ : REnv} {μ ν : Sto} {e : Expr} {sts : List Stmt} {pos : Pos} {r : Ent} {Φ : Ent → Sto → Prop} (h : EV X e ρ μ r ν) (hΦ : Φ (frz n ν r) (ν.take n)) : ST X W n (.Return (some e) pos :: sts) ρ μ (PostP Φ) := ST.ret h hΦ
section
variable {w : World} {P : Program} {K : PySem.W.Frag} {base : Heap} {mg : Str → Option Value}
theorem Df.calGP {x : Str} {st : Stmt} {N ps : List Str} {k : Nat} {C : ConP} (D : Df K mg x st) (Sc : FnScope N ps (defScope st))
    (hb : ∀ (kV doc pm : Value) (an : Option Addr) (cdv ct : Value) (us : List Value), us.length = ps.length → bindArgs (PySem.W.fnOf x x (defArgs st) (defBody st) (defScope st) .none kV doc pm an cdv ct) ⟨us, []⟩ = pure (ps.zip us))
    (hN : ps.length ≤ N.length)
    (body : ∀ (f : Addr) (cdv : Value) (A : Around) (outer : List Env) (s : Shared) (H : Hp) (E : XK), A.guards = some [] → Room k (A.deeper (envOfC x (defScope st) s.heap.objs.size f cdv)) → ∀ rs μ Φ, C rs μ Φ →
      ST (cxOf CX0 P w K mg base N x (defScope st) f cdv A outer s H E).nox W0 μ.length (defBody st) (rs.map some ++ List.replicate (N.length - rs.length) none) μ (PostP Φ)) : CalGP P w K mg base x (k + 1) ps C := by
  obtain ⟨f, fd, F, hm⟩ := D.ex
  refine ⟨f, fd, funG F Sc (fun xs G R E h => ?_) (fun cdv B o t G xs R E hgd room h => ?_), hm, F.kp, F.binds hb⟩
  · obtain ⟨w0, μ, rs, Φ, _, hv, hl, _⟩ := h
    exact hv.1.trans hl
  · obtain ⟨w0, μ, rs, Φ, m, hv, hl, hC, q⟩ := h
    refine body f cdv B o t G E hgd room rs μ Φ hC w0 _ G _ (Nat.le_of_eq m.len.symm) m (sl_start hv (by omega)) fun oo ho => ?_
    have hw : w0.cut μ.length = w0 := by
      show (⟨w0.α.take μ.length, w0.ξ⟩ : Wd) = w0
      rw [← m.len, List.take_length]
    match oo, ho with
    | .ret r2 μ2, ho =>
      intro v G' m' f' hv'
      rw [hw] at m' hv'
      exact q r2 μ2 v G' ho m' f' hv'
end
section
variable {X : Cx} {ρ : REnv} {μ μ1 μ2 : Sto} {e : Expr} {es : List Expr} {pos p : Pos} {rs : List Ent} {xs : List PyData} {n : Str} {k : Nat} {ps : List Str}
/-- f(a new list) -/
theorem EV.callNewP {C : ConP} {b : Bool} {x1 : Str} {Φ : Ent → Sto → Prop} (F : CalGP X.prog X.w X.K X.mg X.base n k [x1] C) (hgd : X.A.guards = some []) (hr : Room k X.A) (ha : EVF X e ρ μ xs μ1) (hC : C [.ptr μ1.length] (μ1 ++ [xs]) Φ) (hΦ : ∀ r μ', Φ r μ' → r = Bb b ∧ ∃ ys, μ' = μ1 ++ [ys])
    (hg : Gl X n := by rfl) (hdb : (n == ("__debug__" : Str)) = false := by decide) (he : starEach [e] X.env = (false, eval e X.env) :: starEach [] X.env := by rfl) (hpl : (backTo pos (starEach [] X.env)).any (·.1) = false := by rfl) :
    EV X (.Call (.Name n p) [e] [] pos) ρ μ (Bb b) μ1 := by
  intro w σ H m s Q q
  obtain ⟨f, fd, G, hm, hk, hb⟩ := F.ex
  refine ⟨tCall (SpP X.K [x1] C) [] E0 (tCons (EX X e) tNil), ⟨fun pins s0 σ0 H0 Q0 I h => ?_⟩, ?_⟩
  · refine wpAny_Call_Name_kw (ld_glob I hg hm ?_ hdb)
    refine PySem.W.callWith_K (h₀ := X.base) I.ok.mod.kin hk (thn ((pa_cons (p_ex (e := e)) pa_nil he).run pos pins s0 σ0 H0 _ I h) fun us s1 ⟨vs, H1, I1, r, z⟩ => ⟨I1.kIn, ?_⟩) he hpl
    have z' : SpP X.K [x1] C (vs ++ []) H1 Q0 E0 := z
    rw [List.append_nil] at z'
    exact runG G hgd hr hb I1 r z'
  · refine ha w σ H m s _ fun p0 H1 us m1 f1 hp e1 hd => ?_
    have hx : p0 ∉ w.ξ := fun z => m.freshN hp (List.mem_append_right _ z)
    have hl1 : w.α.length = μ1.length := m1.len
    have hw : (w.add [p0]).cut w.α.length = w := by
      rw [take_add (Nat.le_refl _)]
      show (⟨w.α.take w.α.length, w.ξ⟩ : Wd) = w
      rw [List.take_length]
    refine ⟨w.add [p0], μ1 ++ [xs], [.ptr μ1.length], Φ, m1.adopt hx e1 hd, .cons ⟨p0, ?_, rfl⟩ .nil, rfl, hC, fun r μ' v H2 hr2 m2 f2 h2 => ?_⟩
    · rw [List.getElem?_append_right (by omega), hl1]
      simp
    · obtain ⟨rfl, ys, rfl⟩ := hΦ r μ' hr2
      have mm := m2.cut w.α.length
      rw [hw, hl1, List.take_left] at mm
      cases h2
      refine q _ H2 mm (fun c o hc hn nt => f2 c o (f1 c o hc hn nt) (fun z => ?_) nt) (Dq.bl b)
      rcases List.mem_append.mp z with z | z
      · exact hn z
      · have : c = p0 := by simpa using z
        exact hp o (this ▸ hc) nt
end
end J
/-! J40: exceptions of the program's own whose context is None. -/
namespace J
open PySem PySem.Spec
open PyProof.Rows L2
variable [KC]
section
variable {X : Cx} {e : Expr} {es : List Expr} {ta : TA} {p pos : Pos}
/-- C(e, ..): its context is None -/
theorem pmk_oexN {Y : CXT} {x : Str} {C gI : Addr} {k : Nat} {fd : FuncData} {ps : List Str} {sp : Sp} (O : OexC X.K C) (hi : PySem.W.findIn X.K (.ref C) "__init__" = some (some (.ref gI))) (ht : PySem.W.typeIn X.K (.ref gI) = some (.type "function"))
    (Fn : FnOk X.prog X.w X.K X.mg X.base Y k gI fd ps sp) (room : Room (k + 1) X.A) (bi : Binds X.K fd ps []) (pass : Passes Y X (fun _ _ _ => False)) (glob : Gl X x) (mean : X.mg x = some (.ref C)) (args : PA X (e :: es) ta)
    (ndb : (x == ("__debug__" : Str)) = false := by decide) (st : starEach (e :: es) X.env = (false, eval e X.env) :: starEach es X.env := by rfl) (pl : (backTo pos (starEach es X.env)).any (·.1) = false := by rfl) :
    L2N.PMk X (.Call (.Name x p) (e :: es) [] pos) (tMkO C sp [] ta) := by
  intro pins s0 σ0 H0 Q J hh
  obtain ⟨c1, c2, c3, c4, c5, c6, c7, c8, c9, c10, c11, c12, c13, c14, c15, look, refs⟩ := O.cls
  refine wpAny_Call_Name_kw (ld_glob J glob mean ?_ ndb)
  refine PySem.W.callWith_K (h₀ := X.base) J.ok.mod.kin O.kC (thn (args.run pos pins s0 σ0 H0 _ J hh) fun vals t1 ⟨ws, G, J1, rel, _, want⟩ => ⟨J1.kIn, ?_⟩) st pl
  show wpAny _ _ (call (.ref C) vals) _ _ _
  obtain ⟨h1, gn, dw, tok, sys⟩ := t1
  have le1 : h1.objs.size ≤ h1.objs.size + 1 := Nat.le_succ _
  have want1 := want (h1.objs.size + 1) (J1.hok.fresh le1)
  rw [List.append_nil] at want1
  have keep1 : ∀ b u, h1.get? b = some u → ((h1.push (PySem.W.kdv_tup vals)).push (PySem.HandSPX.excO C h1.objs.size)).get? b = some u := fun b u z => Heap.get?_push_of_some _ (Heap.get?_push_of_some _ z)
  have made : ((h1.push (PySem.W.kdv_tup vals)).push (PySem.HandSPX.excO C h1.objs.size)).get? (h1.objs.size + 1) = some (PySem.HandSPX.excO C h1.objs.size) := by heap_get
  have J2 : Inv X pins σ0 (upd G (h1.objs.size + 1) (exo (h1.objs.size + 1) C none)) ⟨(h1.push (PySem.W.kdv_tup vals)).push (PySem.HandSPX.excO C h1.objs.size), gn, dw, tok, sys⟩ :=
    J1.laid (o := exo (h1.objs.size + 1) C none) (a := h1.objs.size + 1) (t' := tok) (h' := (h1.push (PySem.W.kdv_tup vals)).push (PySem.HandSPX.excO C h1.objs.size)) keep1 le1 (exo_ok made)
  have rel2 : Vals (V.ref (h1.objs.size + 1) :: ws) (Value.ref (h1.objs.size + 1) :: vals) := .cons rfl rel
  have many : (Value.ref (h1.objs.size + 1) :: vals ++ []).length = ps.length := by
    have z := rel2.length
    rw [Fn.len _ _ _ _ want1] at z
    rw [List.append_nil]
    exact z.symm
  have small : vals.length ≤ sizeLine := by
    rw [← Paired.length rel, sizeLine_eq]
    omega
  have bind2 := bi _ (Value.ref (h1.objs.size + 1) :: vals) J2.kIn many
  rw [List.append_nil] at bind2
  refine wpAny_call (PySem.HandSPX.call_own PySem.F.excBase_ValueError (fun Z => PySem.HandSPX.refsVE_contains Z c5 refs) (J1.kIn _ _ look) (PySem.W.looks_findIn J1.kIn hi) (fun self => PySem.W.bind_fn J1.kIn self ht) small
    (codeAny_mono (Fn.run _ X.stack _ _ ⟨Value.ref (h1.objs.size + 1) :: vals, []⟩ (Value.ref (h1.objs.size + 1) :: vals) _ _ (fun _ _ _ => False) (room.make C vals []) (J2.env0.make C vals []) bind2 rel2 want1) fun r t3 got => ?_))
  match r, got with
  | .error er, got => exact pass pins σ0 _ _ er t3 J2 got
  | .ok (.ret u), got =>
    obtain ⟨v, G2, os2, ag2, un2, ok2, rv, ev, dd, fs, ea, ed, free, q2⟩ := got
    subst ev
    obtain ⟨h2, gn2, dw2, tok2, sys2⟩ := t3
    obtain ⟨t0, G3, J3, k3, ne3, oe3, na3⟩ := mk_end0 (d2 := dw2) (t2 := tok2) J1 le1 keep1 un2 ok2 os2 ag2 ea ed free
    refine ⟨rv, h1.objs.size + 1, _, _, ⟨G3, gn2, dw2, tok2, sys2⟩, _, .ref C, some dd, rfl, J3, k3, ne3, oe3, ⟨rfl, rfl, fun vs z => ?_⟩, rfl, rfl, na3, rfl, ag2, raises_own O.exC O.tyC, q2⟩
    cases z
    rfl
end
theorem sky_zc {B : Heap} {l : List Env} {a L : Addr} {cls : Value} {d : Option Addr} {h : Heap} (s : Sky B l a (L2N.Zn cls d) L h) : Sky B l a (Zc cls d) L h := by
  rcases s with ⟨q1, q2, q3, oe, vs, q4, q5, q6⟩ | s | s
  · exact .inl ⟨q1, q2, q3, oe, vs, q4, q5.zc, q6⟩
  · exact .inr (.inl (L2H.flyingZ_imp (fun o z => z.zc) s))
  · exact .inr (.inr ⟨s.1, s.2.1, s.2.2.1, L2H.tracedZ_imp (fun o z => z.zc) s.2.2.2⟩)
theorem okXN {P : Program} {w : World} {K : PySem.W.Frag} {mg : Str → Option Value} {base : Heap} {x qual : Str} {st : Stmt} {f : Addr} {fd : FuncData} {N ps : List Str} {k : Nat} {sp : Sp} (F : Fun K x qual st f fd) (Sc : FnScope N ps (defScope st)) (many : ∀ vs H Q E, sp vs H Q E → vs.length = ps.length)
    (bd : ∀ (cdv : Value) (A : Around) (outer : List Env) (s : Shared) (H : Hp) (vs : List V) (Q : VK) (E : XK), Room k (A.deeper (envOfC qual (defScope st) s.heap.objs.size f cdv)) → sp vs H Q E →
      ∃ T, PSs (cxOf (L2N.CX P w) P w K mg base N qual (defScope st) f cdv A outer s H E) (defBody st) T ∧ T { nx := fun _ G => Q .non G, rt := Q } (start N vs) H) : FnOk P w K mg base (L2N.CX P w) (k + 1) f fd ps sp := by
  obtain ⟨oc, od, kV, doc, pm, an, cdv, ct, osl, rfl, lk, hcd⟩ := F.ex
  exact fn_of lk hcd Sc many fun A outer s H vs Q E room want => bd cdv A outer s H vs Q E room want
/-- where any exception may go, one whose context is None may -/
theorem takesN {X : Cx} {W : WX} (tk : L2.Takes X W) : L2N.Takes X W := by
  intro u s' h
  obtain ⟨a, B, sI, pins, σ, H, cls, d, e, I, nb, up, sky, h⟩ := h
  exact tk u s' ⟨a, B, sI, pins, σ, H, cls, d, e, I, nb, up, sky_zc sky, h⟩
end J
/-! J23: ways out by an exception: what is raised, by data. -/
namespace J
open PySem PySem.Spec
open PyProof.Rows L2
variable [KC]
/-- what a piece comes to: a value, or an exception of the class at C with these fields -/
inductive Res where
  | ok (r : Ent) (μ : Sto)
  | rse (C : Addr) (fs : List (Str × PyData)) (μ : Sto)
def EndR (K : PySem.W.Frag) (w : Wd) (H : Hp) (σ : L2.St) (W : WX) (Q : VK) : Res → Prop
  | .ok r μ' => ∀ v H', Mem K H' w μ' → Fr w.α H H' → Val K H' w v r → Q v H'
  | .rse C fs μ' => ∀ od H', Mem K H' w μ' → Fr w.α H H' → Xd H' w od fs → W (.ref C) od σ H'
def EVR (X : Cx) (W : WX) (e : Expr) (ρ : REnv) (μ : Sto) (o : Res) : Prop := ∀ w σ H, Mem X.K H w μ → Sl X.K H w σ ρ → ∀ Q : VK, EndR X.K w H σ W Q o → EX X e σ H Q
section
variable {X : Cx} {W : WX} {ρ : REnv} {μ μ1 μ2 : Sto} {e c : Expr} {es : List Expr} {pos p p' : Pos} {rs : List Ent} {r : Ent} {o : Res} {n x : Str} {k nn : Nat} {ps : List Str} {C : Addr} {fs : List (Str × PyData)} {P : Out → Prop} {rest : List Stmt}
theorem EVR.of (h : EV X e ρ μ r μ1) : EVR X W e ρ μ (.ok r μ1) := fun w σ H m s Q q => h w σ H m s Q q
theorem EVR.ev (h : EVR X W e ρ μ (.ok r μ1)) : EV X e ρ μ r μ1 := fun w σ H m s Q q => h w σ H m s Q q
theorem Xd.sub {H : Hp} {w w' : Wd} {od : Option Addr} (h : Xd H w od fs) (g : ∀ b ∈ w'.all, b ∈ w.all) : Xd H w' od fs := by
  cases od with
  | none => exact h
  | some d =>
    obtain ⟨ws, e, nd, hn, hd⟩ := h
    exact ⟨ws, e, fun z => nd (g d z), hn, dqAll_mono (dl_sub g) _ _ hd⟩
theorem Fin.rse0 {w : Wd} {H H1 : Hp} {D : Ends} {n : Nat} {σ : L2.St} {od : Option Addr} (q : Fin X W n w H D (.rse ρ μ1 C fs)) (m : Mem X.K H1 w μ1) (s : Sl X.K H1 w σ ρ) (f : Fr w.α H H1) (hx : Xd H1 w od fs) : W (.ref C) od σ H1 := by
  have := q od [] σ H1 (by rw [add_nil]; exact m) (by rw [add_nil]; exact s) f (fun b hb => absurd hb (by simp))
  rw [add_nil] at this
  exact this hx
/-- what follows, by what comes -/
def afterR (o : Res) (f : Ent → Sto → Prop) (g : Addr → List (Str × PyData) → Sto → Prop) : Prop := match o with
  | .ok r μ => f r μ
  | .rse C fs μ => g C fs μ
theorem ST.exprR (h : EVR X W e ρ μ o) (hr : afterR o (fun _ μ1 => ST X W nn rest ρ μ1 P) fun C fs μ1 => P (.rse ρ μ1 C fs)) (hs : swapsWith e none pos.line X.env = pure false := by rfl) : ST X W nn (.Expr e pos :: rest) ρ μ P := by
  intro w σ H D hn m s q
  refine ⟨_, pss_cons (ps_expr (p_ex (e := e)) hs) p_sx, ?_⟩
  refine h w σ H m s _ ?_
  cases o with
  | ok r μ1 => exact fun v H1 m1 f1 hv => hr w σ H1 D hn m1 (s.fr f1) fun o ho => (q o ho).step hn f1
  | rse C fs μ1 => exact fun od H1 m1 f1 hx => Fin.rse0 (q _ hr) m1 (s.fr f1) f1 hx
theorem ST.setR {i : Nat} (h : EVR X W e ρ μ o) (hN : X.N.Nodup) (hi : X.N[i]? = some x) (hx : Loc X.env.scope x) (hr : afterR o (fun r μ1 => ST X W nn rest (ρ.set i (some r)) μ1 P) fun C fs μ1 => P (.rse ρ μ1 C fs)) (hs : swapsWith e (some (.Name x p')) pos.line X.env = pure false := by rfl)
    (hf : X.fn x = true ∨ X.env.scope.names.lookup x = some .local := by first | exact .inl rfl | exact .inr rfl | assumption) : ST X W nn (.Assign [.Name x p'] e pos :: rest) ρ μ P := by
  intro w σ H D hn m s q
  refine ⟨_, pss_cons (ps_set hN hi hx (p_ex (e := e)) hs hf) p_sx, ?_⟩
  refine h w σ H m s _ ?_
  cases o with
  | ok r μ1 => exact fun v H1 m1 f1 h1 => hr w _ H1 D hn m1 ((s.fr f1).set h1) fun o ho => (q o ho).step hn f1
  | rse C fs μ1 => exact fun od H1 m1 f1 hx => Fin.rse0 (q _ hr) m1 (s.fr f1) f1 hx
theorem ST.retR (h : EVR X W e ρ μ o) (hr : afterR o (fun r μ1 => P (.ret (frz nn μ1 r) (μ1.take nn))) fun C fs μ1 => P (.rse ρ μ1 C fs)) : ST X W nn (.Return (some e) pos :: rest) ρ μ P := by
  intro w σ H D hn m s q
  refine ⟨_, pss_cons (ps_ret (p_ex (e := e))) pss_never, ?_⟩
  refine h w σ H m s _ ?_
  cases o with
  | ok r μ1 => exact fun v H1 m1 f1 hv => q _ hr v H1 (m1.cut nn) f1 (val_frz m1 hv)
  | rse C fs μ1 => exact fun od H1 m1 f1 hx => Fin.rse0 (q _ hr) m1 (s.fr f1) f1 hx
end
/-! ### defs that may raise -/
abbrev ConX := List Ent → Sto → Res → Prop
def EndX (K : PySem.W.Frag) (w : Wd) (H : Hp) (Q : VK) (E : XK) : Res → Prop
  | .ok r μ' => ∀ v H', Mem K H' w μ' → Fr w.α H H' → Val K H' w v r → Q v H'
  | .rse C fs μ' => ∀ od H', Mem K H' w μ' → Fr w.α H H' → Xd H' w od fs → E (.ref C) od H'
def SpX (K : PySem.W.Frag) (ps : List Str) (C : ConX) : Sp := fun vs H Q E => ∃ w μ rs o, Mem K H w μ ∧ Vas K H w vs rs ∧ rs.length = ps.length ∧ C rs μ o ∧ EndX K w H Q E o
structure CalX (P : Program) (w : World) (K : PySem.W.Frag) (mg : Str → Option Value) (base : Heap) (n : Str) (k : Nat) (ps : List Str) (C : ConX) : Prop where
  ex : ∃ f fd, FnOk P w K mg base (L2N.CX P w) k f fd ps (SpX K ps C) ∧ mg n = some (.ref f) ∧ PySem.W.keepIn K (.ref f) = true ∧ Binds K fd ps []
def PostX (n : Nat) (o : Res) : Out → Prop
  | .ret r μ' => o = .ok r μ'
  | .rse _ μ' C fs => o = .rse C fs (μ'.take n)
  | .nx _ μ' => ∃ ν μ0, o = .ok Nn μ0 ∧ μ0.length = n ∧ μ' = μ0 ++ ν
  | _ => False
section
variable {w : World} {P : Program} {K : PySem.W.Frag} {base : Heap} {mg : Str → Option Value}
theorem fnx_mk {x qual : Str} {st : Stmt} {f : Addr} {fd : FuncData} {N ps : List Str} {k : Nat} {C : ConX} (F : Fun K x qual st f fd) (Sc : FnScope N ps (defScope st)) (hN : ps.length ≤ N.length)
    (body : ∀ (cdv : Value) (A : Around) (outer : List Env) (s : Shared) (H : Hp) (E : XK), Room k (A.deeper (envOfC qual (defScope st) s.heap.objs.size f cdv)) → ∀ rs μ o, rs.length = ps.length → C rs μ o →
      ST (cxOf (L2N.CX P w) P w K mg base N qual (defScope st) f cdv A outer s H E) (fun cls d _ H => E cls d H) μ.length (defBody st) (rs.map some ++ List.replicate (N.length - rs.length) none) μ (PostX μ.length o)) : FnOk P w K mg base (L2N.CX P w) (k + 1) f fd ps (SpX K ps C) := by
  refine okXN F Sc (fun vs H Q E h => ?_) (fun cdv A outer s H vs Q E hr h => ?_)
  · obtain ⟨w0, μ, rs, o, _, hv, hl, _⟩ := h
    rw [hv.1, hl]
  · obtain ⟨w0, μ, rs, o, m, hv, hl, hC, q⟩ := h
    have hb := body cdv A outer s H E hr rs μ o hl hC
    refine hb w0 _ H _ (Nat.le_of_eq m.len.symm) m (sl_start hv (by omega)) fun oo ho => ?_
    have hw : w0.cut μ.length = w0 := by
      show (⟨w0.α.take μ.length, w0.ξ⟩ : Wd) = w0
      rw [← m.len, List.take_length]
    have hwb : ∀ β, (w0.add β).cut μ.length = w0 := fun β => by
      show (⟨(w0.α ++ β).take μ.length, w0.ξ⟩ : Wd) = w0
      rw [← m.len, List.take_left]
    cases oo with
    | ret r2 μ2 =>
      have e : o = .ok r2 μ2 := ho
      subst e
      intro v H' m' f' hv'
      rw [hw] at m' hv'
      exact q v H' m' f' hv'
    | nx ρ2 μ2 =>
      obtain ⟨ν, μ0, rfl, hl0, rfl⟩ := ho
      intro β σ' H' m' s' f' hb'
      have mc := m'.cut μ.length
      rw [hwb, ← hl0, List.take_left] at mc
      exact q .non H' mc f' Dq.non
    | brk ρ2 μ2 => exact False.elim ho
    | ct ρ2 μ2 => exact False.elim ho
    | rse ρ2 μ2 C2 fs =>
      have e : o = .rse C2 fs (μ2.take μ.length) := ho
      subst e
      intro od β σ' H' m' s' f' hb' hx
      have mc := m'.cut μ.length
      rw [hwb] at mc
      refine q od H' mc f' (hx.sub fun b hb2 => ?_)
      rcases List.mem_append.mp hb2 with z | z
      · exact List.mem_append_left _ (List.mem_append_left _ z)
      · exact List.mem_append_right _ z
theorem Df.calX {x : Str} {st : Stmt} {N ps : List Str} {k : Nat} {C : ConX} (D : Df K mg x st) (Sc : FnScope N ps (defScope st))
    (hb : ∀ (kV doc pm : Value) (an : Option Addr) (cdv ct : Value) (us : List Value), us.length = ps.length → bindArgs (PySem.W.fnOf x x (defArgs st) (defBody st) (defScope st) .none kV doc pm an cdv ct) ⟨us, []⟩ = pure (ps.zip us))
    (hN : ps.length ≤ N.length)
    (body : ∀ (f : Addr) (cdv : Value) (A : Around) (outer : List Env) (s : Shared) (H : Hp) (E : XK), Room k (A.deeper (envOfC x (defScope st) s.heap.objs.size f cdv)) → ∀ rs μ o, C rs μ o →
      ST (cxOf (L2N.CX P w) P w K mg base N x (defScope st) f cdv A outer s H E) (fun cls d _ H => E cls d H) μ.length (defBody st) (rs.map some ++ List.replicate (N.length - rs.length) none) μ (PostX μ.length o)) : CalX P w K mg base x (k + 1) ps C := by
  obtain ⟨f, fd, F, hm⟩ := D.ex
  exact ⟨f, fd, fnx_mk F Sc hN fun cdv A outer s H E hr rs μ o _ hC => body f cdv A outer s H E hr rs μ o hC, hm, F.kp, F.binds hb⟩
end
section
variable {X : Cx} {W : WX} {ρ : REnv} {μ μ1 μ2 : Sto} {e : Expr} {es : List Expr} {pos p : Pos} {rs : List Ent} {r : Ent} {o : Res} {n : Str} {k nn : Nat} {ps : List Str} {P : Out → Prop} {rest : List Stmt}
theorem EVR.call {C : ConX} (F : CalX X.prog X.w X.K X.mg X.base n k ps C) (tk : L2N.Takes X W) (hr : Room k X.A) (ha : AV X (e :: es) ρ μ rs μ1) (hC : C rs μ1 o) (hl : rs.length = ps.length := by rfl)
    (hg : Gl X n := by rfl) (hdb : (n == ("__debug__" : Str)) = false := by decide) (he : starEach (e :: es) X.env = (false, eval e X.env) :: starEach es X.env := by rfl) (hpl : (backTo pos (starEach es X.env)).any (·.1) = false := by rfl) :
    EVR X W (.Call (.Name n p) (e :: es) [] pos) ρ μ o := by
  intro w σ H m s Q q
  obtain ⟨f, fd, G, hm, hk, hb⟩ := F.ex
  refine ⟨_, pe_callS (E := WE W) G hr hg hm hk hb (fun σ => L2N.passAt tk σ) (p_ax (e := e :: es)) hdb he hpl, ?_⟩
  refine ha w σ H m s _ fun vs H1 m1 f1 h1 => ?_
  refine ⟨w, μ1, rs, o, m1, h1, hl, hC, ?_⟩
  cases o with
  | ok r μ2 => exact fun v H2 m2 f2 h2 => q v H2 m2 (f1.trans f2) h2
  | rse C fs μ2 => exact fun od H2 m2 f2 h2 => q od H2 m2 (f1.trans f2) h2
end
/-! ### raise -/
def spXI (C : Addr) (f : Str) : Sp := fun vs H Q _ => ∃ a v, vs = [.ref a, v] ∧ H a = some (exo a C none) ∧ ∀ dx, H dx = none → dx ≠ a → Q .non (upd (upd H dx (exd dx [(f, v)])) a (exo a C (some dx)))
structure ExcK (P : Program) (w : World) (K : PySem.W.Frag) (mg : Str → Option Value) (base : Heap) (n : Str) (C : Addr) (f : Str) : Prop where
  oex : OexC K C
  at_ : mg n = some (.ref C)
  noF : PySem.W.findIn K (.ref C) f = some none
  ini : ∃ fI fd, PySem.W.findIn K (.ref C) "__init__" = some (some (.ref fI)) ∧ PySem.W.typeIn K (.ref fI) = some (.type "function") ∧ FnOk P w K mg base CX0 1 fI fd ["self", f] (spXI C f) ∧ Binds K fd ["self", f] []
section
variable {X : Cx} {W : WX} {ρ : REnv} {μ μ1 : Sto} {e : Expr} {pos p pos' : Pos} {d : PyData} {n f : Str} {C : Addr} {nn k : Nat} {P : Out → Prop} {rest : List Stmt}
theorem exc_end {K : PySem.W.Frag} {H : Hp} {w : Wd} {a dx : Addr} {v : V} {o1 o2 o3 : HO} (m : Mem K H w μ) (hv : Val K H w v (.dat d)) (ha : H a = none) (hd : H dx = none) (hne : dx ≠ a) :
    Mem K (upd (L2.del (upd (upd (upd H a o1) dx o2) a o3) a) dx (.xd [(f, v)])) w μ ∧ Fr w.α H (upd (L2.del (upd (upd (upd H a o1) dx o2) a o3) a) dx (.xd [(f, v)])) ∧ Xd (upd (L2.del (upd (upd (upd H a o1) dx o2) a o3) a) dx (.xd [(f, v)])) w (some dx) [(f, d)] := by
  have hS : Same H (upd (L2.del (upd (upd (upd H a o1) dx o2) a o3) a) dx (.xd [(f, v)])) := fun b u e => by
    have n1 : b ≠ a := ne_of_none e ha
    have n2 : b ≠ dx := ne_of_none e hd
    rw [upd_ne n2, L2.del_ne n1, upd_ne n1, upd_ne n2, upd_ne n1]
    exact e
  exact ⟨m.same hS, Fr.of_same hS, [(f, v)], upd_same, m.freshA hd, rfl, .cons (dq_mono (Fr.of_same (S := w.α) hS).all _ _ hv) .nil⟩
/-- raise X(e) -/
theorem ST.raise (M : ExcK X.prog X.w X.K X.mg X.base n C f) (tk : L2N.Takes X W) (hr : Room k X.A) (ha : EV X e ρ μ (.dat d) μ1) (hP : P (.rse ρ μ1 C [(f, d)])) (hk : 2 ≤ k := by decide) (hc : X.calm = true := by rfl) (hg : Gl X n := by rfl)
    (hdb : (n == ("__debug__" : Str)) = false := by decide) (he : starEach [e] X.env = (false, eval e X.env) :: starEach [] X.env := by rfl) (hpl : (backTo pos (starEach [] X.env)).any (·.1) = false := by rfl) : ST X W nn (.Raise (some (.Call (.Name n p) [e] [] pos)) none pos' :: rest) ρ μ P := by
  intro w σ H D hn m s q
  obtain ⟨fI, fd, iC, tI, F, bi⟩ := M.ini
  refine ⟨_, pss_cons (L2N.ps_raise hc tk (pmk_oexN (Y := CX0) M.oex iC tI F (hr.mono hk) bi pass0 hg M.at_ (pa_cons (p_ex (e := e)) pa_nil he) hdb he hpl)) pss_never, ?_⟩
  refine ha w σ H m s _ fun v H1 m1 f1 hv => ?_
  refine ⟨by simp, fun a na => ⟨a, v, rfl, upd_same, fun dx hd hne => ⟨rfl, dx, [(f, v)], upd_same, ?_, ?_, ?_⟩⟩⟩
  · rw [upd_ne hne, upd_same]
  · rwa [upd_ne hne] at hd
  · have hd' : H1 dx = none := by rwa [upd_ne hne] at hd
    obtain ⟨m2, f2, x2⟩ := exc_end (f := f) (o1 := exo a C none) (o2 := exd dx [(f, v)]) (o3 := exo a C (some dx)) m1 hv na hd' hne
    exact Fin.rse0 (q _ hP) m2 ((s.fr f1).fr f2) (f1.trans f2) x2
end
end J
/-! J24: objects whose __init__ may raise; the __init__ of an error; ifs that raise. -/
namespace J
open PySem PySem.Spec
open PyProof.Rows L2
variable [KC]
section
variable {X : Cx} {W : WX} {n : Nat} {ρ : REnv} {μ μ1 : Sto} {P : Out → Prop} {c : Expr} {body rest : List Stmt} {pos : Pos} {k : Bool}
theorem ST.ifX (h : TV X c ρ μ k μ1) (h1 : k = true → ST X W n body ρ μ1 (thenP X W n rest P)) (h2 : k = false → ST X W n rest ρ μ1 P) : ST X W n (.If c body [] pos :: rest) ρ μ P := ST.iff h h1 fun z => ST.nil (h2 z)
end
/-- the __init__ of an error: self.f = f -/
theorem okXI {P : Program} {w : World} {K : PySem.W.Frag} {mg : Str → Option Value} {base : Heap} {C fI : Addr} {fd : FuncData} {qual f : Str} {st : Stmt} {p1 p2 p3 pos : Pos} (F : Fun K "__init__" qual st fI fd) (Sc : FnScope ["self", f] ["self", f] (defScope st)) (oe : OexC K C) (no : PySem.W.findIn K (.ref C) f = some none) (hb : defBody st = [.Assign [.Attribute (.Name "self" p1) f p2] (.Name f p3) pos])
    (hv : Vis (defScope st) f) (hv0 : Vis (defScope st) "self") (hd : (f == ("__debug__" : Str)) = false := by decide) (hcd : (f == ("__classdict__" : Str)) = false := by decide) : FnOk P w K mg base CX0 1 fI fd ["self", f] (spXI C f) := by
  refine F.ok Sc (fun vs H Q E h => ?_) (fun cdv A outer s H vs Q E hr h => ?_)
  · obtain ⟨a, v, rfl, _⟩ := h
    rfl
  · obtain ⟨a, v, rfl, ha, q⟩ := h
    rw [hb]
    refine ⟨_, pss_one (ps_ost (pe_var (i := 0) rfl hv0) (pe_var (i := 1) rfl hv hd hcd)), ?_⟩
    exact ⟨v, rfl, .ref a, rfl, a, C, rfl, oe, no, .inl ⟨ha, q⟩⟩
/-! making -/
def spInitX (K : PySem.W.Frag) (C : Addr) (f : Str) (Chk : PyData → Option (Addr × List (Str × PyData)) → Prop) : Sp := fun vs H Q E => ∃ x dx v w μ d o, vs = [.ref x, v] ∧ H x = some (.ins C dx []) ∧ x ∈ w.ξ ∧ Mem K H w μ ∧ Val K H w v (.dat d) ∧ Chk d o ∧
  (match o with
    | none => ∀ H1, Mem K H1 w μ → Fr w.α H H1 → Val K H1 w v (.dat d) → Q .non (upd H1 x (.ins C dx [(f, v)]))
    | some cf => ∀ od H1, Mem K H1 w μ → Fr w.α H H1 → Xd H1 w od cf.2 → E (.ref cf.1) od H1)
structure MakX (P : Program) (w : World) (K : PySem.W.Frag) (mg : Str → Option Value) (base : Heap) (n : Str) (C : Addr) (f : Str) (k : Nat) (ps : List Str) (Chk : PyData → Option (Addr × List (Str × PyData)) → Prop) : Prop where
  ex : ∃ g fd, FnOk P w K mg base (L2N.CX P w) k g fd ps (spInitX K C f Chk) ∧ Mk K C g ∧ mg n = some (.ref C) ∧ Binds K fd ps [] ∧ KBn K fd ps 1 [ps.getD 1 Str.empty] (fun us ws => us ++ ws) (fun vs zs => vs ++ zs)
theorem make_valD {K : PySem.W.Frag} {H : Hp} {w : Wd} {xx dx : Addr} {o o' : HO} {v : V} {d : PyData} (h : Val K H w v (.dat d)) (hx : H xx = none) (hdx : H dx = none) : Val K (upd (upd H dx o') xx o) (wk' w xx) v (.dat d) := by
  have hS : Same H (upd (upd H dx o') xx o) := fun b u e => by
    rw [upd_ne (ne_of_none e hx), upd_ne (ne_of_none e hdx)]
    exact e
  exact dq_mono (keep_out (K := K) hx (Fr.of_same hS) ⟨_, upd_same⟩) _ _ h
/-- the outcome of C(d) -/
def mkRes (C : Addr) (f : Str) (d : PyData) (μ : Sto) : Option (Addr × List (Str × PyData)) → Res
  | none => .ok (.obj C [(f, d)]) μ
  | some cf => .rse cf.1 cf.2 μ
section
variable {X : Cx} {W : WX} {ρ : REnv} {μ μ1 : Sto} {e : Expr} {pos p kpos : Pos} {n f : Str} {C : Addr} {k : Nat} {ps : List Str} {d : PyData} {Chk : PyData → Option (Addr × List (Str × PyData)) → Prop} {o : Option (Addr × List (Str × PyData))}
/-- the callee runs; what it lets out is wished for at the caller's slots -/
theorem run_makeS {CX1 : CXT} {g : Addr} {fd : FuncData} {sp : Sp} {E : XK} {pins : List (Addr × Obj)} {σ : L2.St} {H : Hp} {s : Shared} {Q : VK} {us ws : List Value} {ks : List Str} {vs : List V} (mk : Mk X.K C g) (F : FnOk X.prog X.w X.K X.mg X.base CX1 k g fd ps sp) (hr : Room (k + 1) X.A)
    (hb : ∀ s : Shared, ∀ u : Value, X.K.In s.heap → BindsTo s fd ⟨u :: us, ks.zip ws⟩ (ps.zip (u :: (us ++ ws)))) (hx : PassesAt CX1 X σ E) (I : Inv X pins σ H s) (r : Vals vs (us ++ ws))
    (h : ∀ x dx, H x = none → H dx = none → dx ≠ x → sp (.ref x :: vs) (upd (upd H dx (.own x)) x (.ins C dx [])) (fun v H2 => v = .non ∧ Q (.ref x) H2) E) : wpAny (model X.prog X.w) X.A (call (.ref C) us (ks.zip ws)) (EP X pins σ Q) X.xe s := by
  have q0 := h (s.heap.objs.size + 1) s.heap.objs.size (I.hok.fresh (Nat.le_succ _)) (I.hok.fresh (Nat.le_refl _)) (Nat.ne_of_lt (Nat.lt_succ_self _))
  have J2 := Inv.made (C := C) I
  have rr : Vals (V.ref (s.heap.objs.size + 1) :: vs) (Value.ref (s.heap.objs.size + 1) :: (us ++ ws)) := .cons rfl r
  refine wpAny_call (make_map (f := g) I.kIn mk.makes mk.init (beq_iff_eq.mp mk.fn) (codeAny_mono (F.run _ X.stack _ _
    ⟨Value.ref (s.heap.objs.size + 1) :: us, ks.zip ws⟩ _ _ _ E (hr.make C us (ks.zip ws)) (J2.env0.make C us (ks.zip ws)) (hb _ _ J2.kIn) rr q0) fun z s' y => ?_))
  cases z with
  | error ee => exact hx pins _ _ ee s' J2 y
  | ok fl =>
    cases fl with
    | ret u =>
      obtain ⟨v, H', J3, rv, ev, q3⟩ := J2.after y
      subst ev
      exact ⟨rv, ⟨V.ref (s.heap.objs.size + 1), H', J3, rfl, q3⟩⟩
    | next => exact y.elim
    | brk => exact y.elim
    | cont => exact y.elim
theorem make_endX {w : Wd} {σ : L2.St} {H H1 : Hp} {x dx : Addr} {v : V} {Q : VK} (m1 : Mem X.K H w μ1) (h1 : Val X.K H w v (.dat d)) (hC : Chk d o) (hx : H x = none) (hdx : H dx = none) (hne : dx ≠ x) (q : EndR X.K w H σ W Q (mkRes C f d μ1 o)) :
    spInitX X.K C f Chk [.ref x, v] (upd (upd H dx (.own x)) x (.ins C dx [])) (fun v H2 => v = .non ∧ Q (.ref x) H2) (fun cls od H2 => W cls od σ H2) := by
  refine ⟨x, dx, v, wk' w x, μ1, d, o, rfl, upd_same, List.mem_cons_self, make_mem m1 hx hdx hne, make_valD h1 hx hdx, hC, ?_⟩
  have hxa : x ∉ w.all := m1.freshA hx
  cases o with
  | none =>
    intro H2 m2 f2 h2
    refine ⟨rfl, ?_⟩
    have ff : Fr w.α H (upd H2 x (.ins C dx [(f, v)])) := fun b o e nb => by
      have b1 : b ≠ x := ne_of_none e hx
      have b2 : b ≠ dx := ne_of_none e hdx
      rw [upd_ne b1]
      exact f2 b o (by rw [upd_ne b1, upd_ne b2]; exact e) nb
    have g : Same (dl H2 (wk' w x).all) (dl (upd H2 x (.ins C dx [(f, v)])) w.all) := same_outs.trans (dl_sub fun b hb => all_wk'.mpr (.inr hb))
    exact q _ _ m2.outs.unkeep ff ⟨x, dx, [(f, v)], rfl, dl_of hxa upd_same, rfl, .cons (dq_mono g _ _ h2) .nil⟩
  | some cf =>
    intro od H2 m2 f2 x2
    have ff : Fr w.α H H2 := fun b o e nb => by
      have b1 : b ≠ x := ne_of_none e hx
      have b2 : b ≠ dx := ne_of_none e hdx
      exact f2 b o (by rw [upd_ne b1, upd_ne b2]; exact e) nb
    exact q od H2 m2.unkeep ff (x2.sub fun b hb => all_wk'.mpr (.inr hb))
theorem EVR.make (M : MakX X.prog X.w X.K X.mg X.base n C f k ps Chk) (tk : L2N.Takes X W) (hr : Room (k + 1) X.A) (ha : EV X e ρ μ (.dat d) μ1) (hC : Chk d o) (hg : Gl X n := by rfl) (hs : starEach [e] X.env = (false, eval e X.env) :: starEach [] X.env := by rfl) (hdb : (n == ("__debug__" : Str)) = false := by decide)
    (hpl : (backTo pos (starEach [] X.env)).any (·.1) = false := by rfl) (hps : ps.length = 2 := by rfl) : EVR X W (.Call (.Name n p) [e] [] pos) ρ μ (mkRes C f d μ1 o) := by
  intro w σ H m s Q q
  obtain ⟨g, fd, F, mk, hm, bi, _⟩ := M.ex
  refine ⟨fun σ H Q => tCons (EX X e) tNil σ H fun vs H1 => vs.length = 1 ∧ ∀ x dx, H1 x = none → H1 dx = none → dx ≠ x → spInitX X.K C f Chk (.ref x :: vs) (upd (upd H1 dx (.own x)) x (.ins C dx [])) (fun v H2 => v = .non ∧ Q (.ref x) H2) (WE W σ), ⟨fun pins s0 σ0 H0 Q0 I h => ?_⟩, ?_⟩
  · refine wpAny_Call_Name_kw (ld_glob I hg hm ?_ hdb)
    refine PySem.W.callWith_K (h₀ := X.base) I.ok.mod.kin mk.kp (thn ((pa_cons (p_ex (e := e)) pa_nil hs).run pos pins s0 σ0 H0 _ I h) fun us s1 ⟨vs, H1, I1, r, hl, z⟩ => ⟨I1.kIn, ?_⟩) hs hpl
    have hul : us.length = 1 := r.length.symm.trans hl
    have r' : Vals vs (us ++ []) := by rw [List.append_nil]; exact r
    exact run_makeS (ks := []) (ws := []) mk F hr (fun s u ki => by
      have := bi s (u :: us) ki (by rw [List.append_nil, hps, List.length_cons, hul])
      rw [List.append_nil] at this
      rw [List.append_nil]
      exact this) (L2N.passAt tk σ0) I1 r' z
  · refine ha w σ H m s _ fun v H1 m1 f1 h1 => ?_
    refine ⟨rfl, fun x dx hx hdx hne => ?_⟩
    refine make_endX (H1 := H1) m1 h1 hC hx hdx hne ?_
    cases o with
    | none => exact fun u H2 m2 f2 h2 => q u H2 m2 (f1.trans f2) h2
    | some cf => exact fun od H2 m2 f2 h2 => q od H2 m2 (f1.trans f2) h2
end
end J
/-! J28: xs.count(x), xs.index(x) of flat data; repr of any data; a caught exception in a def that got it. -/
namespace J
open PySem PySem.Spec
open PyProof.Rows L2
variable [KC]
theorem count_rel {y : V} : ∀ {ys : List V} {us : List Value}, Vals ys us → ys.all flatV = true → us.countP (eqU y) = ys.countP fun z => eqV z y
  | _, _, .nil, _ => rfl
  | z :: ys, u :: us, .cons r t, f => by
    rw [List.all_cons, Bool.and_eq_true] at f
    have ih := count_rel (y := y) t f.2
    rw [List.countP_cons, List.countP_cons, ih, eqU_of r f.1]
theorem mt_cntF {X : Cx} : MtR X "list.count" (fun x xs H Q => ∃ (c : Addr) (ys : List V) (y : V), x = V.ref c ∧ xs = [y] ∧ SqL X.K H c ys ∧ flatV y = true ∧ ys.all flatV = true ∧ Q (.int ((ys.countP fun z => eqV z y : Nat) : Int)) H) := by
  intro pins s0 σ H x xs v us Q I r1 r2 hh
  obtain ⟨c, ys, y, rfl, rfl, seq, fy, fys, hq⟩ := hh
  cases r1
  obtain ⟨u, rfl, ru⟩ := vals1 r2
  obtain ⟨items, rv, ⟨⟨cl, od, da, sl⟩, n, ho, hc, hdn, hd⟩, hlen⟩ := I.list seq
  simp only at hc hd
  subst hc hd
  refine call_meets PySem.F.slot_list_count ⟨_, ho, rfl⟩ PySem.F.entry_list_count (PySem.F.args_list_count_2 _ _) (SeqAt.list_countAt c items.toArray n od sl u (eqU y)) ⟨ho, fun z hz => mem_eqAt ru fy rv fys z (by simpa using hz), ?_⟩
  have ec := count_rel (y := y) rv fys
  refine ⟨.int ((ys.countP fun z => eqV z y : Nat) : Int), H, I.tok _, ⟨s0.toks, ?_⟩, hq⟩
  rw [← ec]
theorem dq_count {H : Hp} {v : V} {d : PyData} (h : Dq H v d) : ∀ {vs : List V} {ds : List PyData}, DqAll H vs ds → (vs.countP fun z => eqV z v) = ds.countP fun z => eqF z d
  | [], _, g => by cases g; rfl
  | u :: vs, _, g => by
    cases g with
    | cons g1 g2 => rw [List.countP_cons, List.countP_cons, dq_count h g2, dq_eqF g1 h]
section
variable {X : Cx} {W : WX} {ρ : REnv} {μ μ1 μ2 : Sto} {o e : Expr} {d : PyData} {ds : List PyData} {pos apos p p2 : Pos} {k : Nat}
theorem EV.cnt (ho : EV X o ρ μ (Ls ds) μ1) (he : EV X e ρ μ1 (.dat d) μ2) (h1 : flatD d = true) (h2 : ds.all flatD = true) (hb : attributeBase o "count" X.env (eval o X.env) = eval o X.env := by rfl)
    (hfew : ((backTo pos (starEach [e] X.env)).all (fun x => !x.1) && (backToKw pos (keywordEach [] X.env)).all (fun x => x.1.isSome) && decide ([e].length + ([] : List Keyword).length + (if ([] : List Keyword).isEmpty then 0 else 1) < 30)) = true := by rfl)
    (hl : (apos.endLine == pos.line) = true := by rfl) (hs : starEach [e] X.env = (false, eval e X.env) :: starEach [] X.env := by rfl) (hp : (backTo pos (starEach [] X.env)).any (·.1) = false := by rfl) : EV X (.Call (.Attribute o "count" apos) [e] [] pos) ρ μ (Ii ((ds.countP fun z => eqF z d : Nat) : Int)) μ2 := by
  intro w σ H m s Q q
  refine ⟨_, pe_bm PySem.F.plainAttrs_list PySem.F.slot_list_count PySem.F.type_list_count mt_cntF (p_ex (e := o)) (pa_cons (p_ex (e := e)) pa_nil hs) hb hfew hl hs hp, ?_⟩
  refine ho w σ H m s _ fun v H1 m1 f1 h3 => ?_
  have h3' := h3
  cases h3 with
  | @lst c vs _ hc hd =>
    refine ⟨.inl ⟨rfl, vs, SqL.of (dl_some hc).2⟩, ?_⟩
    refine he w σ H1 m1 (s.fr f1) _ fun u H2 m2 f2 h4 => ?_
    have h5 : Val X.K H2 w (.ref c) (Ls ds) := h3'.fr f2
    cases h5 with
    | @lst _ vs2 _ hc2 hd2 => exact ⟨c, vs2, u, rfl, rfl, SqL.of (dl_some hc2).2, by rw [dq_flat h4, h1], by rw [dq_allFlat hd2, h2], by rw [dq_count h4 hd2]; exact q _ H2 m2 (f1.trans f2) (Dq.int _)⟩
theorem EV.idx {j : Nat} {z : PyData} (ho : EV X o ρ μ (Ls ds) μ1) (he : EV X e ρ μ1 (.dat d) μ2) (h1 : flatD d = true) (h2 : ds.all flatD = true) (hj : ds[j]? = some z) (hz : eqF z d = true) (hno : ∀ (m : Nat) (y : PyData), m < j → ds[m]? = some y → eqF y d = false) (hb : attributeBase o "index" X.env (eval o X.env) = eval o X.env := by rfl)
    (hfew : ((backTo pos (starEach [e] X.env)).all (fun x => !x.1) && (backToKw pos (keywordEach [] X.env)).all (fun x => x.1.isSome) && decide ([e].length + ([] : List Keyword).length + (if ([] : List Keyword).isEmpty then 0 else 1) < 30)) = true := by rfl)
    (hl : (apos.endLine == pos.line) = true := by rfl) (hs : starEach [e] X.env = (false, eval e X.env) :: starEach [] X.env := by rfl) (hp : (backTo pos (starEach [] X.env)).any (·.1) = false := by rfl) : EV X (.Call (.Attribute o "index" apos) [e] [] pos) ρ μ (Ii (j : Int)) μ2 := by
  intro w σ H m s Q q
  refine ⟨_, pe_bm PySem.F.plainAttrs_list PySem.F.slot_list_index PySem.F.type_list_index mt_index (p_ex (e := o)) (pa_cons (p_ex (e := e)) pa_nil hs) hb hfew hl hs hp, ?_⟩
  refine ho w σ H m s _ fun v H1 m1 f1 h3 => ?_
  have h3' := h3
  cases h3 with
  | @lst c vs _ hc hd =>
    refine ⟨.inl ⟨rfl, vs, SqL.of (dl_some hc).2⟩, ?_⟩
    refine he w σ H1 m1 (s.fr f1) _ fun u H2 m2 f2 h4 => ?_
    have h5 : Val X.K H2 w (.ref c) (Ls ds) := h3'.fr f2
    cases h5 with
    | @lst _ vs2 _ hc2 hd2 =>
      obtain ⟨zv, hzv, hzd⟩ := dqAll_get hd2 hj
      refine ⟨c, vs2, u, j, zv, rfl, rfl, SqL.of (dl_some hc2).2, by rw [dq_flat h4, h1], by rw [dq_allFlat hd2, h2], hzv, by rw [dq_eqF hzd h4, hz], fun m y hm hy => ?_, q _ H2 m2 (f1.trans f2) (Dq.int _)⟩
      obtain ⟨dy, hdy, hyd⟩ := dqAll_getV hd2 hy
      rw [dq_eqF hyd h4]
      exact hno m dy hm hdy
/-- what can be shown by repr -/
structure Sho (d : PyData) : Prop where
  lay : d.canLay0 = true
  shw : d.showable = true
  dep : d.depth ≤ 60
  len : rlen d ≤ 10000000
  int : ∀ i : Int, d = .int i → i.natAbs.log2 < 1920
theorem Shw.sho {d : PyData} (h : Shw d) : Sho d := ⟨h.lay, h.shw, h.dep, h.len, fun i z => by have := h.seq; rw [z] at this; cases this⟩
theorem EV.reprX (T : X.mg "repr" = none) (hgd : X.A.guards = some []) (hun : X.A.units + 100 < cLine) (ho : EV X o ρ μ (.dat d) μ1) (hd : Sho d) (hg : Gl X "repr" := by rfl) (hs : starEach [o] X.env = (false, eval o X.env) :: starEach [] X.env := by rfl) : EV X (.Call (.Name "repr" p) [o] [] pos) ρ μ (Ss d.shown) μ1 := by
  intro w σ H m s Q q
  have hsz : d.shown.length ≤ sizeLine := Nat.le_trans (Nat.le_trans (shown_le d hd.lay) hd.len) (by decide)
  have cr : CallR X (.builtin "repr") (fun vs H Q => ∃ v, vs = [v] ∧ Dp X.K H v d ∧ Dq H v d ∧ Q (.str d.shown) H) := by
    intro pins s σ H xs us Q I r h
    obtain ⟨v, rfl, hdp, hdq, hq⟩ := h
    obtain ⟨u, rfl, ru⟩ := vals1 r
    have big : ∀ a : Addr, v = V.ref a → wpAny (model X.prog X.w) X.A (PySem.call (.builtin "repr") [u]) (EP X pins σ Q) X.xe s := fun a ea => by
      subst ea
      obtain rfl : u = Value.ref a := ru
      obtain ⟨as, rd⟩ := Dp.reads I d _ _ hdp (show RelV (V.ref a) (Value.ref a) from rfl)
      refine repr_of_reads' rd hd.shw (fun z => by rw [noDict0 d hd.lay] at z; cases z) hgd ?_ (fun _ _ e => e) (fun h' u tk kp => ?_) hsz
      · have h1 := hd.dep
        omega
      · exact ⟨.str d.shown, H, I.kept (t' := tk) kp, ⟨u, rfl⟩, hq⟩
    cases hdq with
    | non =>
      obtain rfl : u = Value.none := ru
      exact PySem.P.repr_of_none ⟨.str _, H, I.tok _, ⟨_, rfl⟩, by rw [PyData.shown_none] at hq; exact hq⟩
    | bl b =>
      obtain rfl : u = Value.bool b := ru
      exact PySem.P.repr_of_bool ⟨.str _, H, I.tok _, ⟨_, rfl⟩, by rw [PyData.shown_bool] at hq; exact hq⟩
    | int i =>
      obtain ⟨t, rfl⟩ := ru
      exact PySem.P.repr_of_int (hd.int i rfl) ⟨.str _, H, I.tok _, ⟨_, rfl⟩, by rw [PyData.shown_int] at hq; exact hq⟩
    | str x =>
      obtain ⟨t, rfl⟩ := ru
      exact PySem.P.repr_of_str ⟨.str _, H, I.tok _, ⟨_, rfl⟩, by rw [PyData.shown_str] at hq; exact hq⟩ (by rw [PyData.shown_str] at hsz; exact hsz)
    | lst _ _ => exact big _ rfl
    | tup _ _ => exact big _ rfl
    | cst _ _ => exact big _ rfl
    | ins _ _ _ =>
      have := hd.lay
      simp [PyData.canLay0] at this
    | dic _ _ _ =>
      have := hd.lay
      simp [PyData.canLay0] at this
  refine ⟨_, pe_callB cr hg T (by decide +kernel) (pa_cons (p_ex (e := o)) pa_nil hs) (by decide) (by decide) hs (by rfl), ?_⟩
  refine ho w σ H m s _ fun v H1 m1 f1 h1 => ?_
  have h1' : Dq (dl H1 w.all) v d := h1
  exact ⟨v, rfl, Dq.dp (Mem.cst (by assumption)) dl_same _ _ h1' hd.lay, dq_mono dl_same _ _ h1', q _ H1 m1 f1 (Dq.str _)⟩
end
end J
/-! J29: a def that gets a caught exception, while it is handled. -/
namespace J
open PySem PySem.Spec
open PyProof.Rows L2
variable [KC]
/-- a class by its name -/
def ClsAt (mg : Str → Option Value) (n : Str) (cv : Value) : Prop := (n == ("__debug__" : Str)) = false ∧ ((∃ T, cv = .ref T ∧ mg n = some (.ref T)) ∨ (∃ T : String, cv = .type T ∧ mg n = none ∧ bootBuiltins n = some (.type T) ∧ n ≠ "__name__"))
/-- what e is -/
structure ExE (X : Cx) (D : Addr) (a d : Addr) : Prop where
  cls : ExcC X.K D
  xfc : XfC X.K D
  pin : ∃ oe : Obj, (a, oe) ∈ X.pn ∧ Zc (.ref D) (some d) oe ∧ ∃ vs, oe.data = .fields vs
section
variable {X : Cx} {ρ : REnv} {μ μ1 : Sto} {a d D : Addr} {fs : List (Str × PyData)} {o : Expr} {n f : Str} {cv : Value} {b : Bool} {pos p p2 : Pos} {dt : PyData}
theorem call_isP (M : ExE X D a d) : CallR X (.builtin "isinstance") (fun xs H Q => ∃ (c : V) (cv : Value) (b : Bool), (∃ ws : List (Str × V), H d = some (.xd ws)) ∧ xs = [.ref a, c] ∧ (∀ u, RelV c u → u = cv) ∧ PySem.W.kitOne X.K (.ref D) cv = some b ∧ Q (.bl b) H) := by
  intro pins s0 σ H xs us Q I r hh
  obtain ⟨c, cv, b, ⟨ws, hx⟩, rfl, hcv, hk, hq⟩ := hh
  obtain ⟨u1, u2, rfl, r1, r2⟩ := vals2 r
  obtain rfl : u1 = Value.ref a := r1
  obtain rfl := hcv _ r2
  obtain ⟨oe, hp, hz, vs, hd⟩ := M.pin
  have C := M.cls
  obtain ⟨hget, _⟩ := I.pin (a, oe) (List.mem_append_left _ hp)
  have hx' : ObjOk X.prog X.w H s0.heap d (.xd ws) := I.hok d _ hx
  obtain ⟨mA, hns, hr⟩ := hx'
  obtain ⟨od, ho, _⟩ := lookIn_ns hns
  have J0 : PySem.W.InstAt s0.heap a oe D (some od) := ⟨hget, hz.1, by unfold PySem.W.notCls; rw [hd] <;> rfl, by rw [hz.2]; exact ho⟩
  have hcl : (PySem.W.clsIn X.K D).isSome = true := by
    obtain ⟨cd, hc, _⟩ := PySem.W.any_some C.hd
    rw [hc]
    rfl
  exact PySem.W.kia_one (PySem.W.kitx_exc hcl C.hg C.hk C.hs C.ha C.hn C.ht C.hm) I.kIn J0 hk (fun z => nomatch z) fun tk => ⟨.bl b, H, I.kept (t' := tk) fun _ _ z => z, rfl, hq⟩
/-- isinstance(e, T) -/
theorem EV.isE (M : ExE X D a d) (T : X.mg "isinstance" = none) (N : ClsAt X.mg n cv) (hk : PySem.W.kitOne X.K (.ref D) cv = some b) (ho : EV X o ρ μ (.exc a d fs) μ1) (hg : Gl X "isinstance" := by rfl) (hgT : Gl X n := by rfl)
    (he : starEach [o, .Name n p2] X.env = (false, eval o X.env) :: starEach [.Name n p2] X.env := by rfl) (he2 : starEach [.Name n p2] X.env = (false, eval (.Name n p2) X.env) :: starEach [] X.env := by rfl) (hpl : (backTo pos (starEach [.Name n p2] X.env)).any (·.1) = false := by rfl) : EV X (.Call (.Name "isinstance" p) [o, .Name n p2] [] pos) ρ μ (Bb b) μ1 := by
  intro w σ H m s Q q
  obtain ⟨hdb, ⟨c, rfl, hm⟩ | ⟨c, rfl, hm, hv, hn⟩⟩ := N
  · refine ⟨_, pe_callB (call_isP M) hg T (by decide +kernel) (pa_cons (p_ex (e := o)) (pa_cons (pe_glob (v := .ref c) hgT hm rfl hdb) pa_nil he2) he) (by decide) (by decide) he hpl, ?_⟩
    refine ho w σ H m s _ fun v H1 m1 f1 h1 => ?_
    exact ⟨.ref c, .ref c, b, (h1.2.elim fun ws z => ⟨ws, (dl_some z.1).2⟩), by rw [h1.1], fun u hu => hu, hk, q _ H1 m1 f1 (Dq.bl b)⟩
  · refine ⟨_, pe_callB (call_isP M) hg T (by decide +kernel) (pa_cons (p_ex (e := o)) (pa_cons (pe_bltn (v := .ty c) hgT hm hv rfl hn hdb) pa_nil he2) he) (by decide) (by decide) he hpl, ?_⟩
    refine ho w σ H m s _ fun v H1 m1 f1 h1 => ?_
    exact ⟨.ty c, .type c, b, (h1.2.elim fun ws z => ⟨ws, (dl_some z.1).2⟩), by rw [h1.1], fun u hu => hu, hk, q _ H1 m1 f1 (Dq.bl b)⟩
/-- e.f -/
theorem pe_xp {te : TE} (M : ExE X D a d) (hno : PySem.W.findIn X.K (.ref D) f = some none) (he : PE X o te) (hb : attributeBase o f X.env (eval o X.env) = eval o X.env := by rfl) :
    PE X (.Attribute o f pos) (fun σ H Q => te σ H fun x H1 => x = .ref a ∧ ∃ (ws : List (Str × V)) (v : V), H1 d = some (.xd ws) ∧ ws.lookup f = some v ∧ Q v H1) := by
  refine ⟨fun pins s0 σ H Q I hh => ?_⟩
  refine attr_of hb (thn (he.run pins s0 σ H _ I hh) fun u s1 hy => ?_)
  obtain ⟨x, H1, I1, rx, ex, ws, v, ea, lk, hq⟩ := hy
  subst ex
  obtain rfl : u = Value.ref a := rx
  obtain ⟨oe, hp, hz, vs, hd⟩ := M.pin
  have T := M.xfc
  obtain ⟨ha, _⟩ := I1.pin (a, oe) (List.mem_append_left _ hp)
  have hx : ObjOk X.prog X.w H1 s1.heap d (.xd ws) := I1.hok d _ ea
  obtain ⟨mA, hns, hr⟩ := hx
  obtain ⟨od, ho, hl⟩ := lookIn_ns hns
  obtain ⟨u, hu, ru⟩ := RelO.some_of (v := v) (o := mA f) (by rw [← lk]; exact hr f)
  have J0 : PySem.W.InstAt s1.heap a oe D (some od) := ⟨ha, hz.1, by unfold PySem.W.notCls; rw [hd] <;> rfl, by rw [hz.2]; exact ho⟩
  exact HandSPX.exc_get I1.kIn J0 T.ga T.gg T.exC (PySem.W.findObj_own T.hdC hno rfl (by rw [hl, hu])) (handed_of ru) ⟨v, H1, I1.tok _, ru, hq⟩
theorem EV.excF (M : ExE X D a d) (hno : PySem.W.findIn X.K (.ref D) f = some none) (ho : EV X o ρ μ (.exc a d fs) μ1) (hl : fs.lookup f = some dt) (hb : attributeBase o f X.env (eval o X.env) = eval o X.env := by rfl) : EV X (.Attribute o f pos) ρ μ (.dat dt) μ1 := by
  intro w σ H m s Q q
  refine ⟨_, pe_xp M hno (p_ex (e := o)) hb, ?_⟩
  refine ho w σ H m s _ fun v H1 m1 f1 h1 => ?_
  obtain ⟨rfl, ws, hx, hn, hd⟩ := h1
  obtain ⟨u, hu, hq⟩ := lk_dq hn hd hl
  exact ⟨rfl, ws, u, (dl_some hx).2, hu, q u H1 m1 f1 hq⟩
end
/-! ### the def -/
/-- f(e), e the exception that is handled -/
structure FnE (P : Program) (w : World) (K : PySem.W.Frag) (mg : Str → Option Value) (base : Heap) (k : Nat) (f : Addr) (fd : FuncData) (x : Str) (sp : Addr × Obj → Hp → VK → Prop) : Prop where
  go : ∀ (B : Around) (st : List Env) (t : Shared) (G : Hp) (R : VK) (p : Addr × Obj), B.guards = some [] → L2H.RoomH k B → L2H.PinOk st G t p → Env0 P w K mg base B st t G → BindsTo t fd ⟨[.ref p.1], []⟩ ([x].zip [.ref p.1]) → sp p G R → codeAny (model P w) B (.call (.ref f) ⟨[.ref p.1], []⟩) (CR CX0 st P w G t R E0) t
section
variable {w : World} {P : Program} {K : PySem.W.Frag} {base : Heap} {mg : Str → Option Value}
theorem fnE_of {k : Nat} {f : Addr} {nm0 qual : Str} {prm : Arguments} {bd : List Stmt} {scp : Scope} {dV kV doc pm cdv ct oc : Value} {an od : Option Addr} {osl : Array (Option Value)} {N : List Str} {x : Str} {sp : Addr × Obj → Hp → VK → Prop}
    (look : K.lookup f = some ⟨oc, od, .func (PySem.W.fnOf nm0 qual prm bd scp dV kV doc pm an cdv ct), osl⟩) (code : PySem.W.codeIn K cdv qual = true) (Sc : FnScope N [x] scp)
    (hb : ∀ (B : Around) (st : List Env) (t : Shared) (G : Hp) (R : VK) (p : Addr × Obj), B.guards = some [] → L2H.RoomH k (B.deeper (envOfC qual scp t.heap.objs.size f cdv)) → sp p G R → ∃ T, PSs (L2H.cxH CX0 P w K mg base N qual scp f cdv B st t G E0 p) bd T ∧ T { nx := fun _ G' => R .non G', rt := R } (L2.start N [.ref p.1]) G) :
    FnE P w K mg base (k + 1) f (PySem.W.fnOf nm0 qual prm bd scp dV kV doc pm an cdv ct) x sp := by
  refine ⟨fun B st t G R p hgd room hpin e0 bind hsp => ?_⟩
  have inK : K.In t.heap := e0.mod.kin.keeps fun a o z => (e0.bs a o z).1
  have noL : t.heap.NoLimit := e0.mod.nolimit.keeps fun a o z => (e0.bs a o z).1
  refine codeAny_call_function room.depth (inK _ _ look) rfl Sc.co Sc.gen rfl (PySem.W.codeRec_of inK code) (bind _ _ _ _ ?_)
  refine wpAny_newFunctionEnv_cells Sc.kind (fun ⟨n, v⟩ hy => ?_) fun env he t1 y => ?_
  · rcases Sc.par n (List.of_mem_zip hy).1 with z | z
    · exact Or.inl z
    · exact Or.inr ⟨z, PySem.W.cellsFrom_some _ _ _ (Or.inl z)⟩
  subst he
  refine ⟨noL.keeps y.toInCall.keep, codeAny_func ?_⟩
  obtain ⟨T, hT, hr⟩ := hb B st t G R p hgd (room.deeper _) hsp
  have I : Inv (L2H.cxH CX0 P w K mg base N qual scp f cdv B st t G E0 p) [] (L2.start N [.ref p.1]) G t1 := L2H.inv_startH Sc hpin e0 rfl (.cons rfl .nil) y
  have done : ∀ {σ' : L2.St} {G' : Hp} {v : V} {u : Value} {t' : Shared}, Inv (L2H.cxH CX0 P w K mg base N qual scp f cdv B st t G E0 p) [] σ' G' t' → RelV v u → R v G' → CE st P w G t R u t' := fun {σ' G' v u t'} J0 rv hq => ⟨v, G', J0.os, J0.bare, J0.base, J0.hok, rv, hq⟩
  refine wpAny_mono (hT.run [] t1 (L2.start N [.ref p.1]) G _ I hr) (fun fl t' hs => ?_) fun e t' hs => hs
  match fl, hs with
  | .ret u, hs =>
    obtain ⟨v, σ', G', J0, rv, hq⟩ := hs
    exact done J0 rv hq
  | .next, hs =>
    obtain ⟨σ', G', J0, hq⟩ := hs
    exact done (v := V.non) (u := Value.none) J0 rfl hq
  | .brk, hs =>
    obtain ⟨_, _, _, hq⟩ := hs
    exact hq.elim
  | .cont, hs =>
    obtain ⟨_, _, _, hq⟩ := hs
    exact hq.elim
theorem funE {x qual n : Str} {st : Stmt} {f : Addr} {fd : FuncData} {N : List Str} {k : Nat} {sp : Addr × Obj → Hp → VK → Prop} (F : Fun K n qual st f fd) (Sc : FnScope N [x] (defScope st))
    (hb : ∀ (cdv : Value) (B : Around) (o : List Env) (t : Shared) (G : Hp) (R : VK) (p : Addr × Obj), B.guards = some [] → L2H.RoomH k (B.deeper (envOfC qual (defScope st) t.heap.objs.size f cdv)) → sp p G R →
      ∃ T, PSs (L2H.cxH CX0 P w K mg base N qual (defScope st) f cdv B o t G E0 p).nox (defBody st) T ∧ T { nx := fun _ G' => R .non G', rt := R } (L2.start N [.ref p.1]) G) : FnE P w K mg base (k + 1) f fd x sp := by
  obtain ⟨oc, od, kV, doc, pm, an, cdv, ct, osl, rfl, lk, hcd⟩ := F.ex
  refine fnE_of lk hcd Sc fun B o t G R p hgd room hsp => ?_
  obtain ⟨T, hT, hq⟩ := hb cdv B o t G R p hgd room hsp
  exact ⟨T, hT.nox, hq⟩
end
/-- f(e) in the suite of the clause that caught e -/
theorem pe_callE {X : Cx} {a : Addr} {oe : Obj} {pn : List (Addr × Obj)} {k : Nat} {f : Addr} {fd : FuncData} {x n y : Str} {i : Nat} {sp : Addr × Obj → Hp → VK → Prop} {pos p p2 : Pos} (F : FnE X.prog X.w X.K X.mg X.base k f fd x sp) (hgd : X.A.guards = some []) (hr : L2H.RoomH k X.A) (hg : Gl X n) (hm : X.mg n = some (.ref f)) (hk : PySem.W.keepIn X.K (.ref f) = true) (hb : Binds X.K fd [x] [])
    (hN : X.N[i]? = some y) (hv : Vis X.env.scope y) (hdb : (n == ("__debug__" : Str)) = false := by decide) (hd : (y == ("__debug__" : Str)) = false := by decide) (hcd : (y == ("__classdict__" : Str)) = false := by decide) (he : starEach [.Name y p2] (X.suite a ((a, oe) :: pn)).env = (false, eval (.Name y p2) (X.suite a ((a, oe) :: pn)).env) :: starEach [] (X.suite a ((a, oe) :: pn)).env := by rfl) (hpl : (backTo pos (starEach [] (X.suite a ((a, oe) :: pn)).env)).any (·.1) = false := by rfl) :
    PE (X.suite a ((a, oe) :: pn)) (.Call (.Name n p) [.Name y p2] [] pos) (fun σ H Q => σ[i]? = some (some (.ref a)) ∧ sp (a, oe) H Q) := by
  refine ⟨fun pins s0 σ H Q I hh => ?_⟩
  obtain ⟨hσ, hsp⟩ := hh
  refine wpAny_Call_Name_kw (ld_glob I hg hm ?_ hdb)
  refine PySem.W.callWith_K (h₀ := X.base) I.ok.mod.kin hk (thn ((pa_cons (pe_var (pos := p2) (X := X.suite a ((a, oe) :: pn)) (i := i) hN hv hd hcd) pa_nil he).run pos pins s0 σ H (fun vs H1 => vs = [.ref a] ∧ H1 = H) I ⟨_, hσ, rfl, rfl⟩) fun us s1 ⟨vs, H1, I1, r, ev, eH⟩ => ⟨I1.kIn, ?_⟩) he hpl
  subst ev
  subst eH
  obtain ⟨u, rfl, ru⟩ := vals1 r
  obtain rfl : u = Value.ref a := ru
  have b := hb s1 [.ref a] I1.kIn rfl
  rw [List.append_nil] at b
  have P1 := I1.pin (a, oe) (List.mem_append_left _ List.mem_cons_self)
  have hpin : L2H.PinOk X.stack H1 s1 (a, oe) := ⟨P1.1, P1.2.1, fun hm => (List.mem_cons.mp (I1.stkSub a hm)).elim P1.2.2.1 P1.2.2.2.1, P1.2.2.2.2⟩
  refine wpAny_call (codeAny_mono (F.go (X.suite a ((a, oe) :: pn)).A X.stack s1 H1 Q (a, oe) hgd ⟨hr.dp, hr.un⟩ hpin I1.env0 b hsp) fun z s2 hy => ?_)
  match z, hy with
  | .ok (.ret u), hy => exact I1.after hy
end J
/-! J30: try: .. except (A, B, C) as e: ..; one of them is what comes. -/
namespace J
open PySem PySem.Spec
open PyProof.Rows L2
variable [KC]
theorem flies_on {B g g' : Heap} {fr : List Env} {x : Addr} {Z : Obj → Prop} (f : HandSPX.FlyingZ B fr x Z g) (k : ∀ b o, g.get? b = some o → g'.get? b = some o) : HandSPX.FlyingZ B fr x Z g' := by
  obtain ⟨p1, p2, p3, oe, vs, T, oT, ts, q1, q2, q3, q4, q5, q6, q7, q8, q9⟩ := f
  exact ⟨fun b o e => k b o (p1 b o e), p2, p3.of_keeps (fun b o e _ => ⟨o, k b o e, rfl⟩), oe, vs, T, oT, ts, k _ _ q1, q2, q3, q4, q5, q6, k _ _ q7, q8, q9⟩
/-- what the clause wishes of an exception of the body; slot i is the name's -/
def wAs3 (K : PySem.W.Frag) (cs : List Value) (i : Nat) (ts : Addr → Value → Option Addr → TS) (D : Ends) : WX := fun cls d σ H => PySem.W.exmAny K cls cs = some true ∧ ∀ a, H a = none →
  ts a cls d { nx := fun σ' H' => D.nx (σ'.set i none) H', rt := D.rt, bk := fun σ' H' => D.bk (σ'.set i none) H', ct := fun σ' H' => D.ct (σ'.set i none) H' } (σ.set i (some (.ref a))) H
section
variable {X : Cx} {n x1 x2 x3 : Str} {c1 c2 c3 : Addr} {i : Nat} {body suite : List Stmt} {b₀ : Stmt} {p1 p2 p3 tp pos pos' : Pos} {tk : Nat} {tb : WX → TS} {ts : Addr → Value → Option Addr → TS}
theorem ps_try3 (hst : X.stack = X.env :: X.outer) (hfr : X.env.frame = some X.env.locals) (nd : X.N.Nodup) (hi : X.N[i]? = some n) (hloc : X.env.kindOf n = some .local)
    (hg1 : Gl X x1) (m1 : X.mg x1 = some (.ref c1)) (d1 : (x1 == ("__debug__" : Str)) = false) (hg2 : Gl X x2) (m2 : X.mg x2 = some (.ref c2)) (d2 : (x2 == ("__debug__" : Str)) = false) (hg3 : Gl X x3) (m3 : X.mg x3 = some (.ref c3)) (d3 : (x3 == ("__debug__" : Str)) = false)
    (hb : ∀ (W : WX) (pn : List (Addr × Obj)) (xe : Value → Shared → Prop), Takes (X.tr pn xe) W → PassesOwn (model X.prog X.w) X.A X.env xe → PSs (X.tr pn xe) body (tb W))
    (hsu : ∀ (a : Addr) (oe : Obj) (cls : Value) (d : Option Addr) (pn : List (Addr × Obj)), Zc cls d oe → (∃ vs, oe.data = .fields vs) → PSs (X.suite a ((a, oe) :: pn)) (b₀ :: suite) (ts a cls d)) :
    PS X (.Try body [.ExceptHandler (some (.Tuple [.Name x1 p1, .Name x2 p2, .Name x3 p3] tk tp)) (some n) (b₀ :: suite) pos'] [] [] pos) (fun D σ H => tb (wAs3 X.K [.ref c1, .ref c2, .ref c3] i ts D) D σ H) := by
  refine ⟨fun pins s0 σ H D I hh => ?_⟩
  have ok0 := I.ok
  have frames : X.A.frames = some (X.env :: X.outer) := ok0.frames.trans (by rw [hst])
  refine wpAny_Try_except ?_
  refine wpAny_mono ((hb (wAs3 X.K [.ref c1, .ref c2, .ref c3] i ts D) (X.pn ++ pins) (fun v t1 => wpAny (model X.prog X.w) X.A (noteFrame v X.env) (fun _ t2 => wpAny (model X.prog X.w) X.A (setFlight v none) (fun _ t3 =>
    wpAny (model X.prog X.w) X.A (handleBy v X.env [.ExceptHandler (some (.Tuple [.Name x1 p1, .Name x2 p2, .Name x3 p3] tk tp)) (some n) (b₀ :: suite) pos']) (SP X pins D) X.xe t3) X.xe t2) X.xe t1) (fun u t hx => ?_) PassesOwn.looking).run [] s0 σ H D (I.toTry _) hh) (fun fl t hy => ?_) (fun v t hv => hv)
  · obtain ⟨a, B, sI, pins', σ1, H1, cls, d, rfl, J0, nb, up, sky, na, eo, ag, hm, hgo⟩ := hx
    have J1 : Inv X pins σ1 H1 sI := J0.ofTry ok0
    have sky1 : Sky B (X.env :: X.outer) a (Zc cls d) X.env.locals t.heap := by rw [← hst]; exact sky
    show wpAny (model X.prog X.w) X.A (noteFrame (.ref a) X.env) _ _ _
    refine Sky.land Zc.steady frames hfr sky1 fun g3 fl3 up3 => ?_
    have L3 : Inv X pins σ1 H1 { t with heap := g3 } := J1.landed nb fl3.1 (up.trans up3) eo ag
    obtain ⟨o3, v3, he3, hz3, hd3⟩ := fl3.there
    have apart : ∀ {g : Heap} {o : Obj} {vs : Array Value}, g.FunFrames B (X.env :: X.outer) → g.get? a = some o → o.data = .fields vs → a ∉ frs (X.env :: X.outer) := fun {g o vs} ff e dd hin => by
      obtain ⟨_, o', e', hne⟩ := ff.mem hin
      rw [e] at e'
      cases e'
      exact hne _ dd
    have out3 := apart fl3.2.2.1 he3 hd3
    have nL : a ≠ X.env.locals := fun z => out3 (List.mem_filterMap.mpr ⟨X.env, List.mem_cons_self, by rw [hfr, z]⟩)
    have nF : a ∉ X.fs := fun hin => by
      obtain ⟨ev, hev, q⟩ := List.mem_filterMap.mp hin
      exact out3 (List.mem_filterMap.mpr ⟨ev, List.mem_cons_of_mem _ hev, q⟩)
    have S3 := L3.suite he3 hd3 na nL nF
    refine wpAny_handleBy_cons (codeAny_handlers_test ?_) (by intro q; cases q)
    -- the tuple of the classes
    refine wpAny_Tuple_spliced (Calls.spliced_cons (ld_glob (X := X.suite a ((a, o3) :: (X.pn ++ pins))) S3 hg1 m1 (Calls.spliced_cons (ld_glob (X := X.suite a ((a, o3) :: (X.pn ++ pins))) S3 hg2 m2 (Calls.spliced_cons (ld_glob (X := X.suite a ((a, o3) :: (X.pn ++ pins))) S3 hg3 m3 (Calls.spliced_nil ⟨(show 3 ≤ sizeLine by decide), ?_⟩) d3)) d2)) d1))
    have kp : ∀ b o, g3.get? b = some o → (g3.push { cls := .type "tuple", data := .seq [Value.ref c1, Value.ref c2, Value.ref c3].toArray }).get? b = some o := fun b o e => Heap.get?_push_of_some _ e
    have fl4 := flies_on fl3 kp
    have look : PySem.W.Looks (model X.prog X.w) (g3.push { cls := .type "tuple", data := .seq [Value.ref c1, Value.ref c2, Value.ref c3].toArray }) (typeOf (.ref a)) cls := fun A Q E t' k q => wpAny_typeOf_ref (k _ _ (kp _ _ he3)) (by rw [hz3.1]; exact q)
    have yes := PySem.W.exm_tup3 (M := model X.prog X.w) (tp := g3.objs.size) (L3.kIn.keeps kp) look (Heap.get?_push_size _ rfl) hm
    refine yes.here ?_
    refine codeAny_handlers_suite_as ?_
    refine HandSPX.lands_againZ fl4 fun g5 fl5 up5 => ?_
    have up4 : g3.UpToSlots (g3.push { cls := .type "tuple", data := .seq [Value.ref c1, Value.ref c2, Value.ref c3].toArray }) := Heap.UpToSlots.of_keeps kp
    have L5 : Inv X pins σ1 H1 { t with heap := g5 } := J1.landed nb fl5.1 (((up.trans up3).trans up4).trans up5) eo ag
    obtain ⟨o5, v5, he5, hz5, hd5⟩ := fl5.there
    have S5 := L5.suite he5 hd5 na nL nF
    refine store_ok (X := X.suite a ((a, o5) :: (X.pn ++ pins))) (v := .ref a) S5 nd hi (Or.inl hloc) rfl (fun t6 S6 => ?_) (.inr hloc)
    refine wpAny_mono ((hsu a o5 cls d (X.pn ++ pins) hz5 ⟨_, hd5⟩).run [] t6 _ H1 _ S6 (hgo a na)) (fun fl t7 hz => ?_) (fun _ _ z => False.elim z)
    have close : ∀ {σ7 : L2.St} {H7 : Hp} {R : Shared → Prop}, Inv (X.suite a ((a, o5) :: (X.pn ++ pins))) [] σ7 H7 t7 → (∀ t8, Inv X pins (σ7.set i none) H7 t8 → R t8) → wpAny (model X.prog X.w) X.A (do bindName X.env n .none; unbindBehindTheSuite X.env n pos') (fun _ t8 => R t8) X.xe t7 := fun S7 hR => gone_ok (S7.unsuite ok0) nd hi hloc hR
    match fl, hz with
    | .next, hz =>
      obtain ⟨σ7, H7, S7, q7⟩ := hz
      exact close S7 fun t8 J8 => ⟨_, _, J8, q7⟩
    | .brk, hz =>
      obtain ⟨σ7, H7, S7, q7⟩ := hz
      exact close S7 fun t8 J8 => ⟨_, _, J8, q7⟩
    | .cont, hz =>
      obtain ⟨σ7, H7, S7, q7⟩ := hz
      exact close S7 fun t8 J8 => ⟨_, _, J8, q7⟩
    | .ret u, hz =>
      obtain ⟨v7, σ7, H7, S7, r7, q7⟩ := hz
      exact close S7 fun t8 J8 => ⟨_, _, _, J8, r7, q7⟩
  · match fl, hy with
    | .next, hy =>
      obtain ⟨σ1, H1, J1, q⟩ := hy
      exact wpAny_execs_nil ⟨σ1, H1, J1.ofTry ok0, q⟩
    | .brk, hy =>
      obtain ⟨σ1, H1, J1, q⟩ := hy
      exact ⟨σ1, H1, J1.ofTry ok0, q⟩
    | .cont, hy =>
      obtain ⟨σ1, H1, J1, q⟩ := hy
      exact ⟨σ1, H1, J1.ofTry ok0, q⟩
    | .ret u, hy =>
      obtain ⟨v, σ1, H1, J1, r, q⟩ := hy
      exact ⟨v, σ1, H1, J1.ofTry ok0, r, q⟩
end
end J
/-! J31: a property of what may raise; defs that make lambdas. -/
namespace J
open PySem PySem.Spec
open PyProof.Rows L2
variable [KC]
/-- what follows the making of C(d) -/
def mkThen (r : Ent) (μ μ' : Sto) : Option (Addr × List (Str × PyData)) → Res
  | none => .ok r μ'
  | some cf => .rse cf.1 cf.2 μ
section
variable {X : Cx} {W : WX} {ρ : REnv} {μ μ1 μ2 : Sto} {o : Expr} {g f : Str} {C : Addr} {d : PyData} {k : Nat} {cn : Con} {r : Ent} {pos : Pos} {oo : Option (Addr × List (Str × PyData))}
theorem EVR.prop (ho : EVR X W o ρ μ (mkRes C g d μ1 oo)) (cl : Cls X.K C) (hp : Prp X.prog X.w X.K X.mg X.base C f k cn) (hr : Room (k + 1) X.A) (hC : oo = none → cn [.obj C [(g, d)]] μ1 r μ2) (hb : attributeBase o f X.env (eval o X.env) = eval o X.env := by rfl) : EVR X W (.Attribute o f pos) ρ μ (mkThen r μ1 μ2 oo) := by
  intro w σ H m s Q q
  obtain ⟨p0, gf, fd, F, po, bi⟩ := hp.ex
  refine ⟨_, pe_prop (E := E0) (p_ex (e := o)) cl po F hr bi .nil pass0 hb, ?_⟩
  refine ho w σ H m s _ ?_
  cases oo with
  | some cf => exact q
  | none =>
    intro v H1 m1 f1 h1
    have h1' := h1
    obtain ⟨x, dx, ws, rfl, hx, hn, hd⟩ := h1
    exact ⟨x, dx, ws, rfl, (dl_some hx).2, w, μ1, _, r, μ2, m1, .cons h1' .nil, rfl, hC rfl, fun v H' m2 f2 h2 => q v H' m2 (f1.trans f2) h2⟩
end
/-- what a def that makes lambdas must have: its code object, its table -/
def LamB (K : PySem.W.Frag) (mg : Str → Option Value) (base : Heap) (x : Str) : Prop := ∃ c P, lamTab K x = some (c, P) ∧ LamX.TabB base mg c P ∧ x ∈ lamDefs ∧ ∀ p ∈ tabsK K, p.1 = P → p.2 = x ++ ".<locals>." ++ "<lambda>"
structure LamD (K : PySem.W.Frag) (mg : Str → Option Value) (base : Heap) (x : Str) (cdv : Value) : Prop where
  ex : ∃ c P, lamTab K x = some (c, P) ∧ cdv = .ref c ∧ LamX.TabB base mg c P ∧ x ∈ lamDefs ∧ ∀ p ∈ tabsK K, p.1 = P → p.2 = x ++ ".<locals>." ++ "<lambda>"
section
variable {w : World} {P : Program} {K : PySem.W.Frag} {base : Heap} {mg : Str → Option Value}
theorem funGL {x : Str} {st : Stmt} {f : Addr} {fd : FuncData} {N ps : List Str} {k : Nat} {sp : Sp} (F : Fun K x x st f fd) (hm : mg x = some (.ref f)) (inB : K.In base) (nsB : base.Ns mainGlobals mg) (B : LamB K mg base x) (Sc : FnScope N ps (defScope st)) (many : ∀ xs G R E, sp xs G R E → xs.length = ps.length)
    (hb : ∀ (cdv : Value) (B : Around) (o : List Env) (t : Shared) (G : Hp) (xs : List V) (R : VK) (E : XK), LamD K mg base x cdv → B.guards = some [] → Room k (B.deeper (envOfC x (defScope st) t.heap.objs.size f cdv)) → sp xs G R E →
      ∃ T, PSs (cxOf CX0 P w K mg base N x (defScope st) f cdv B o t G E).nox (defBody st) T ∧ T { nx := fun _ G' => R .non G', rt := R } (L2.start N xs) G) : FnG P w K mg base (k + 1) f fd ps sp := by
  obtain ⟨oc, od, kV, doc, pm, an, cdv, ct, osl, rfl, lk, hcd⟩ := F.ex
  obtain ⟨c, Pt, ht, TB, hx, hu⟩ := B
  have ec : cdv = .ref c := PySem.W.law_code inB nsB (lamTab_in ht) hm (inB _ _ lk) rfl
  refine fnG_of lk hcd Sc many fun B o t G R E hgd room hsp z => ?_
  obtain ⟨T, hT, hq⟩ := hb cdv B o t G R E hgd ⟨c, Pt, ht, ec, TB, hx, hu⟩ room hsp z
  exact ⟨T, hT.nox, hq⟩
theorem Df.calGL {x : Str} {st : Stmt} {N ps : List Str} {k : Nat} {C : Con} (D : Df K mg x st) (inB : K.In base) (nsB : base.Ns mainGlobals mg) (B : LamB K mg base x) (Sc : FnScope N ps (defScope st))
    (hb : ∀ (kV doc pm : Value) (an : Option Addr) (cdv ct : Value) (us : List Value), us.length = ps.length → bindArgs (PySem.W.fnOf x x (defArgs st) (defBody st) (defScope st) .none kV doc pm an cdv ct) ⟨us, []⟩ = pure (ps.zip us))
    (hN : ps.length ≤ N.length)
    (body : ∀ (f : Addr) (cdv : Value) (A : Around) (outer : List Env) (s : Shared) (H : Hp) (E : XK), LamD K mg base x cdv → A.guards = some [] → Room k (A.deeper (envOfC x (defScope st) s.heap.objs.size f cdv)) → ∀ rs μ r μ', C rs μ r μ' →
      ST (cxOf CX0 P w K mg base N x (defScope st) f cdv A outer s H E).nox W0 μ.length (defBody st) (rs.map some ++ List.replicate (N.length - rs.length) none) μ (PostR r μ')) : CalG P w K mg base x (k + 1) ps C := by
  obtain ⟨f, fd, F, hm⟩ := D.ex
  refine ⟨f, fd, funGL F hm inB nsB B Sc (fun xs G R E h => ?_) (fun cdv B o t G xs R E hL hgd room h => ?_), hm, F.kp, F.binds hb⟩
  · obtain ⟨w0, μ, rs, r, μ', _, hv, hl, _⟩ := h
    exact hv.1.trans hl
  · obtain ⟨w0, μ, rs, r, μ', m, hv, hl, hC, q⟩ := h
    have hw : w0.cut μ.length = w0 := by
      show (⟨w0.α.take μ.length, w0.ξ⟩ : Wd) = w0
      rw [← m.len, List.take_length]
    refine body f cdv B o t G E hL hgd room rs μ r μ' hC w0 _ G _ (Nat.le_of_eq m.len.symm) m (sl_start hv (by omega)) fun oo ho => ?_
    match oo, ho with
    | .ret r2 μ2, ho =>
      obtain ⟨rfl, rfl⟩ := ho
      intro v G' m' f' hv'
      rw [hw] at m' hv'
      exact q v G' m' f' hv'
end
section
variable {X : Cx} {ρ : REnv} {μ μ1 μ2 : Sto} {e : Expr} {es : List Expr} {p pos : Pos} {rs : List Ent} {r : Ent} {n : Str} {k : Nat} {ps : List Str}
theorem EV.callG {C : Con} (F : CalG X.prog X.w X.K X.mg X.base n k ps C) (hgd : X.A.guards = some []) (hr : Room k X.A) (ha : AV X (e :: es) ρ μ rs μ1) (hC : C rs μ1 r μ2) (hl : rs.length = ps.length := by rfl)
    (hg : Gl X n := by rfl) (hdb : (n == ("__debug__" : Str)) = false := by decide) (he : starEach (e :: es) X.env = (false, eval e X.env) :: starEach es X.env := by rfl) (hpl : (backTo pos (starEach es X.env)).any (·.1) = false := by rfl) :
    EV X (.Call (.Name n p) (e :: es) [] pos) ρ μ r μ2 := by
  intro w σ H m s Q q
  obtain ⟨f, fd, G, hm, hk, hb⟩ := F.ex
  refine ⟨tCall (SpV X.K ps C) [] E0 (AX X (e :: es)), ⟨fun pins s0 σ0 H0 Q0 I h => ?_⟩, ?_⟩
  · refine wpAny_Call_Name_kw (ld_glob I hg hm ?_ hdb)
    refine PySem.W.callWith_K (h₀ := X.base) I.ok.mod.kin hk (thn ((p_ax (e := e :: es)).run pos pins s0 σ0 H0 _ I h) fun us s1 ⟨vs, H1, I1, rv, z⟩ => ⟨I1.kIn, ?_⟩) he hpl
    have z' : SpV X.K ps C (vs ++ []) H1 Q0 E0 := z
    rw [List.append_nil] at z'
    exact runG G hgd hr hb I1 rv z'
  · refine ha w σ H m s _ fun vs H1 m1 f1 h1 => ?_
    exact ⟨w, μ1, rs, r, μ2, m1, by rw [List.append_nil]; exact h1, hl, hC, fun v H2 m2 f2 h2 => q v H2 m2 (f1.trans f2) h2⟩
/-- a text that is not too long -/
def EVS (X : Cx) (e : Expr) (ρ : REnv) (μ : Sto) (s : Str) (n : Nat) : Prop := EV X e ρ μ (Ss s) μ ∧ s.length ≤ n
theorem EVS.ev {s : Str} {n : Nat} (h : EVS X e ρ μ s n) : EV X e ρ μ (Ss s) μ := h.1
theorem EVS.add {a b : Expr} {s t : Str} {n m : Nat} (h : EVS X a ρ μ s n) (g : EVS X b ρ μ t m) (hs : n + m ≤ 1000000 := by decide) : EVS X (.BinOp a .Add b pos) ρ μ (s ++ t) (n + m) := by
  have h1 := h.2
  have h2 := g.2
  exact ⟨oAddS h.1 g.1 (sz (by omega)), by rw [strLen_append]; omega⟩
theorem EVS.str {s : Str} {n : Nat} {j} (h : s.length ≤ n := by decide) : EVS X (.Constant (.str s) j pos) ρ μ s n := ⟨EV.str, h⟩
end
end J
/-! JB: len(set(a list of truths)). -/
namespace JB
open PySem PySem.Spec
open PyProof.Rows L2
/-- how many of the two truths are there -/
def both (bs : List Bool) : Nat := (if bs.contains true = true then 1 else 0) + (if bs.contains false = true then 1 else 0)
theorem both_le (bs : List Bool) : both bs ≤ 2 := by
  unfold both
  split <;> split <;> omega
theorem both_snoc (bs : List Bool) (b : Bool) : both (bs ++ [b]) = if bs.contains b = true then both bs else both bs + 1 := by
  unfold both
  cases ht : bs.contains true <;> cases hf : bs.contains false <;> cases b <;> simp_all
theorem has_snoc (bs : List Bool) (b k : Bool) : (bs ++ [b]).contains k = (bs.contains k || decide (k = b)) := by
  cases b <;> cases k <;> simp
section
variable {prog : Program} {w : World} {A : Around} {R : Result → Shared → Prop} {it : Addr} {fp wr : List Addr} {G : Array GenState → Array GenState → Prop} {n : Nat} {P : Nat → Value → Prop} {St : Nat → Shared → Prop}
abbrev upto (val : Nat → Bool) (i : Nat) : List Bool := (List.range i).map val
theorem upto_succ (val : Nat → Bool) (i : Nat) : upto val (i + 1) = upto val i ++ [val i] := by simp [upto, List.range_succ]
/-- the filling of a new set -/
theorem fillB (W : WalksS prog w A.in1 it fp wr G n P St) (d : Addr) (hd : d ∉ fp) (val : Nat → Bool) (hv : ∀ i v, P i v → v = .bool (val i)) :
    ∀ (left i : Nat) (t : Shared), n - i = left → i ≤ n → St i t → t.heap.SetOf (PpSet.boolK prog w) d (fun k => (upto val i).contains k) (both (upto val i)) →
      (∀ t', Moved (d :: wr) G t t' → t'.heap.SetOf (PpSet.boolK prog w) d (fun k => (upto val n).contains k) (both (upto val n)) → R (.ok (.ret .none)) t') →
      codeAny (model prog w) A (.builtin "set.update.loop" ⟨[.ref d, .ref it], []⟩) R t := by
  have dw : d ∉ wr := fun z => hd (W.sub _ z)
  have sub2 : ∀ b ∈ wr, b ∈ d :: wr := fun b z => List.mem_cons_of_mem _ z
  intro left
  induction left with
  | zero =>
    intro i t e1 e2 st hS hR
    obtain rfl : i = n := by omega
    refine codeAny_builtin F.entry_set_update_loop ?_
    rw [Around.under_plainId F.plain_set_update_loop _]
    refine (show wpAny _ A.in1 (pyNext (.ref it) >>= _) _ _ t from wpAny_bind (W.done t _ _ st fun t' mv => ?_))
    refine (show wpAny _ A.in1 (ret Value.none) _ _ t' from wpAny_pure (hR t' (mv.mono sub2) ?_))
    obtain ⟨o, es, ep, tb, ho, more⟩ := hS
    exact ⟨o, es, ep, tb, mv.heap d _ dw ho, more⟩
  | succ left ih =>
    intro i t e1 e2 st hS hR
    have lt : i < n := by omega
    refine codeAny_builtin F.entry_set_update_loop ?_
    rw [Around.under_plainId F.plain_set_update_loop _]
    refine (show wpAny _ A.in1 (pyNext (.ref it) >>= _) _ _ t from wpAny_bind (W.item i t _ _ lt st fun v t' pv st' mv => ?_))
    obtain rfl := hv i v pv
    have hS1 : t'.heap.SetOf (PpSet.boolK prog w) d (fun k => (upto val i).contains k) (both (upto val i)) := by
      obtain ⟨o, es, ep, tb, ho, more⟩ := hS
      exact ⟨o, es, ep, tb, mv.heap d _ dw ho, more⟩
    refine (show wpAny _ A.in1 (holding [Value.bool (val i)] (setAdd d (.bool (val i))) >>= _) _ _ t' from wpAny_bind (wpAny_holding ?_))
    unfold setAdd
    refine wpAny_holding (wpAny_bind ((PpSet.boolK prog w).pyHash (k := val i) (PpSet.boolK_is _ _ _) ?_))
    have rm : both (upto val i) + 1 < scanBound := Nat.lt_of_le_of_lt (Nat.succ_le_succ (both_le _)) (by decide)
    refine wpAny_setAddHashed_of (knd := PpSet.boolK prog w) (k := val i) (s := { t' with toks := t'.toks + 1 }) (PpSet.boolK_is _ _ _) rfl hS1 rm fun g' same hS2 => ?_
    have hS3 : g'.SetOf (PpSet.boolK prog w) d (fun k => (upto val (i + 1)).contains k) (both (upto val (i + 1))) := SetOf_congr hS2 (fun k => by rw [upto_succ, has_snoc]) (by rw [upto_succ, both_snoc])
    refine wpAny_pure ⟨plainId_quiet F.plain_set_update_loop _, ih (i + 1) _ (by omega) lt (W.frame _ t' _ _ st' (Nat.le_succ _) fun b hb o e => ?_) hS3 fun t2 mv2 hS4 => ?_⟩
    · exact (same.2 b fun z : b = d => hd (z ▸ hb)).trans e
    · refine hR t2 (Moved.trans W.gtrans ((mv.mono sub2).then_heap (Nat.le_succ _) fun b o hb e => ?_) mv2) hS4
      exact (same.2 b fun z : b = d => hb (z ▸ List.mem_cons_self)).trans e
end
section
variable {prog : Program} {w : World} {A : Around} {E : Value → Shared → Prop} {t : Shared}
set_option maxHeartbeats 8000000 in
/-- set(xs), xs a list of truths -/
theorem setOfTruths {l : Addr} {its : Array Value} {bs : List Bool} {Q : Value → Shared → Prop} (calm : A.handled = none) (isl : t.heap.IsList l its) (hv : ∀ (i : Nat) (v : Value), its[i]? = some v → v = Value.bool (bs.getD i false)) (hn : its.size = bs.length)
    (k : ∀ (g : Heap) (tk : Nat), g.SetOf (PpSet.boolK prog w) t.heap.objs.size (fun b => bs.contains b) (both bs) → (∀ b o, b < t.heap.objs.size → t.heap.get? b = some o → g.get? b = some o) → Q (.ref t.heap.objs.size) { t with heap := g, toks := tk }) :
    wpAny (model prog w) A (call (.type "set") [.ref l]) Q E t := by
  have all : upto (fun i => bs.getD i false) its.size = bs := by
    refine List.ext_getElem (by simp [hn]) fun j h1 h2 => ?_
    simp [List.getD_eq_getElem?_getD, List.getElem?_eq_getElem h2]
  obtain ⟨c0, c1, isMro⟩ := PySem.F.called_set.mro
  have isMade := PySem.F.called_set.made
  have isSub := PySem.F.called_set.sub
  refine wpAny_call (codeAny_of_tree ?_)
  refine (show wpAny _ _ (callAny (.type "set") _) _ _ _ from wpAny_pure ⟨Code.quiet_builtin _ (by decide +kernel), codeAny_builtin PySem.F.entry_type_call ?_⟩)
  rw [Around.under_plain (weight_type_call_type "set" [.ref l] []) rfl]
  have isNot := PySem.F.called_set.notType
  have isCan := PySem.F.called_set.canCreate
  have isOk := PySem.F.typeCall_set_1 (.ref l)
  repeat (any_goals (first | assumption | wp_step))
  refine codeAny_mono (code_set_new_1 (.ref l) (E := E) (Q₁ := fun v t1 => ∃ led : Bool, v = .ref t.heap.objs.size ∧ t1 = { t with heap := t.heap.push { cls := .type "set", dict := none, data := .set #[] 0 (.fresh 0 0 led) } }) fun led => ⟨led, rfl, rfl⟩) fun r t1 hr => ?_
  match r, hr with
  | .error e, hr => exact hr
  | .ok (.ret v), hr =>
    obtain ⟨led, rfl, rfl⟩ := hr
    have here : (t.heap.push { cls := .type "set", dict := none, data := .set #[] 0 (.fresh 0 0 led) }).get? t.heap.objs.size = some { cls := .type "set", dict := none, data := .set #[] 0 (.fresh 0 0 led) } := Heap.get?_push_size _ rfl
    have isT : Shared.TypeIs { t with heap := t.heap.push { cls := .type "set", dict := none, data := .set #[] 0 (.fresh 0 0 led) } } (.ref t.heap.objs.size) "set" := ⟨_, here, rfl⟩
    have ini1 := PySem.F.called_set.init.lookup
    have ini2 := PySem.F.called_set.init.bind (.ref t.heap.objs.size)
    repeat (any_goals (first | assumption | wp_step))
    refine codeAny_mono (codeAny_call_builtin (R := wants (fun r t2 => r = .none ∧ ∃ g tk, t2 = { t with heap := g, toks := tk } ∧ g.SetOf (PpSet.boolK prog w) t.heap.objs.size (fun b => bs.contains b) (both bs) ∧ (∀ b o, b < t.heap.objs.size → t.heap.get? b = some o → g.get? b = some o)) E) PySem.F.called_set.init.plain PySem.F.entry_set_init (check_set_init_1 isT ?_)) fun r2 t2 hr2 => ?_
    · obtain ⟨⟨oc, od, oa, os⟩, hol, e1, nl, e2⟩ := isl
      simp only at e1 e2
      subst e1 e2
      have hol2 : (t.heap.push { cls := .type "set", dict := none, data := .set #[] 0 (.fresh 0 0 led) }).get? l = some { cls := .type "list", dict := od, data := .seq its nl, slots := os } := Heap.get?_push_of_some _ hol
      have no1 := PySem.F.sub_list_set
      have no2 := PySem.F.sub_list_frozenset
      have no3 : (Value.type "list" == Value.type "dict") = false := by decide
      have isl2 : (t.heap.push { cls := .type "set", dict := none, data := .set #[] 0 (.fresh 0 0 led) }).IsList l its := ⟨_, hol2, rfl, nl, rfl⟩
      unfold Builtin.«set.__init__» noKeywords Builtin.Frozenset.updateFrom
      generalize hIt : pyIter = itr
      wp_walk
      subst hIt
      refine wpAny_pyIter_list isl2 (wpAny_bind (wpAny_runValue ?_))
      have ll : l < t.heap.objs.size := Heap.lt_size hol
      have calm3 : A.in1.in1.in1.handled = none := by simp [calm]
      have ne1 : l ≠ (t.heap.push { cls := .type "set", dict := none, data := .set #[] 0 (.fresh 0 0 led) }).objs.size := by
        rw [Heap.size_push]
        exact Nat.ne_of_lt (Nat.lt_succ_of_lt ll)
      have out : t.heap.objs.size ∉ [(t.heap.push { cls := .type "set", dict := none, data := .set #[] 0 (.fresh 0 0 led) }).objs.size, l] := by
        rw [Heap.size_push]
        simp only [List.mem_cons, List.not_mem_nil, or_false, not_or]
        exact ⟨Nat.ne_of_lt (Nat.lt_succ_self _), Nat.ne_of_gt ll⟩
      refine fillB ((Walks.list calm3 _ l ne1 its).toS) t.heap.objs.size out (fun i => bs.getD i false) hv (its.size - 0) 0 _ (by omega) (Nat.zero_le _) ⟨⟨_, Heap.get?_push_size _ rfl, rfl, rfl⟩, isl2.push _⟩ ?start ?fin
      case start =>
        have new : ((t.heap.push { cls := .type "set", dict := none, data := .set #[] 0 (.fresh 0 0 led) }).push { cls := .type "list_iterator", data := .fields #[.ref l, .int 0 0] }).get? t.heap.objs.size = some { cls := .type "set", dict := none, data := .set #[] 0 (.fresh 0 0 led) } := Heap.get?_push_of_some _ here
        exact SetOf_congr ((setObjOf_fresh (knd := PpSet.boolK prog w) led).setOf new (by unfold scanBound; omega)) (fun _ => rfl) rfl
      case fin =>
        intro t3 mv hS
        rw [all] at hS
        obtain ⟨g, gs, dr, tk, o3⟩ := t3
        obtain rfl : gs = t.gens := mv.gens
        obtain rfl : dr = t.drawn := mv.drawn
        obtain rfl : o3 = t.os := mv.os
        refine (show wpAny _ _ _ _ _ _ from wpAny_pure ?_)
        refine (show wpAny _ _ (ret Value.none) _ _ _ from wpAny_pure ⟨rfl, g, tk, rfl, hS, fun b o hb e => ?_⟩)
        have b1 : b ≠ t.heap.objs.size := Nat.ne_of_lt hb
        have b2 : b ≠ (t.heap.push { cls := .type "set", dict := none, data := .set #[] 0 (.fresh 0 0 led) }).objs.size := by
          rw [Heap.size_push]
          exact Nat.ne_of_lt (Nat.lt_succ_of_lt hb)
        exact mv.heap b o (by simp only [List.mem_cons, List.not_mem_nil, or_false, not_or]; exact ⟨b1, b2⟩) (Heap.get?_push_of_some _ (Heap.get?_push_of_some _ e))
    · match r2, hr2 with
      | .error e, hr2 => exact hr2
      | .ok (.ret v), hr2 =>
        obtain ⟨rfl, g, tk, rfl, hS, keep⟩ := hr2
        repeat (any_goals (first | assumption | wp_step))
        exact k _ _ hS keep
end
end JB
/-! J32: how many truths; dicts of texts, asked and filled. -/
namespace J
open PySem PySem.Spec
open PyProof.Rows L2
variable [KC]
theorem truths_at : ∀ {bs : List Bool} {us : List Value}, Vals (bs.map V.bl) us → ∀ (i : Nat) (v : Value), us[i]? = some v → v = Value.bool (bs.getD i false)
  | [], _, h, i, v, e => by cases h; simp at e
  | b :: bs, _, h, i, v, e => by
    cases h with
    | cons r t =>
      match i, e with
      | 0, e =>
        simp at e
        subst e
        exact r
      | i + 1, e => exact truths_at t i v (by simpa using e)
theorem dqAll_bools : ∀ {bs : List Bool} {H : Hp} {vs : List V}, DqAll H vs (bs.map PyData.bool) → vs = bs.map V.bl
  | [], _, _, h => by cases h; rfl
  | b :: bs, _, _, h => by
    cases h with
    | cons h1 h2 => cases h1; rw [dqAll_bools h2]; rfl
section
variable {X : Cx} {ρ : REnv} {μ μ1 μ2 : Sto} {a b e o : Expr} {pos p p2 q : Pos} {bs : List Bool}
theorem pe_truths {ta : TE} (hc : X.calm = true) (hg : Gl X "len") (hm : X.mg "len" = none) (hg2 : Gl X "set") (hm2 : X.mg "set" = none) (ha : PE X a ta) (na : starEach [a] X.env = (false, eval a X.env) :: starEach [] X.env := by rfl) :
    PE X (.Call (.Name "len" p) [.Call (.Name "set" p2) [a] [] q] [] pos) (fun σ H Q => ta σ H fun x H1 => ∃ (l : Addr) (bs : List Bool), x = .ref l ∧ SqL X.K H1 l (bs.map V.bl) ∧ Q (.int (JB.both bs : Nat)) H1) := by
  refine ⟨fun pins s0 σ H Q I hh => ?_⟩
  refine Call_ (ld_blt I hg hm PySem.boot_len (PyProof.Rows.callWith_builtin1 (PyProof.Rows.args_cons ?_ rfl) rfl rfl))
  refine Call_ (ld_blt I hg2 hm2 PyProof.Rows.boot_set (PyProof.Rows.callWith_type1 (PyProof.Rows.args_cons (thn (ha.run pins s0 σ H _ I hh) fun v s1 ⟨x, H1, I1, r1, q1⟩ => PyProof.Rows.args_nil ?_) na) na rfl))
  obtain ⟨l, bs, rfl, seq, hq⟩ := q1
  obtain rfl : v = Value.ref l := r1
  obtain ⟨its, r, pl, hz⟩ := I1.list seq
  have size : its.toArray.size = bs.length := by rw [List.size_toArray, ← r.length, List.length_map]
  refine JB.setOfTruths (I1.ok.hd hc) pl.isList (bs := bs) (fun i v e => truths_at r i v (by simpa using e)) size fun g tk hS keep => PyProof.Rows.args_nil ?_
  obtain ⟨ob, es, ep, t, ho, hex, hd, _, _, _, hf, hn⟩ := hS
  have I2 : Inv X pins σ H1 { s1 with heap := g, toks := tk } := I1.kept fun b o e => keep b o (Heap.lt_size e) e
  refine call_len_set ho hex hd hf (by rw [hn]; have := JB.both_le bs; omega) ⟨.int (JB.both bs : Nat), H1, I2.tok _, ⟨_, by rw [hn]⟩, hq⟩
theorem EV.truths (hc : X.calm = true) (hm : X.mg "len" = none) (hm2 : X.mg "set" = none) (ha : EV X a ρ μ (Ls (bs.map .bool)) μ1) (hg : Gl X "len" := by rfl) (hg2 : Gl X "set" := by rfl) (na : starEach [a] X.env = (false, eval a X.env) :: starEach [] X.env := by rfl) :
    EV X (.Call (.Name "len" p) [.Call (.Name "set" p2) [a] [] q] [] pos) ρ μ (Ii (JB.both bs : Nat)) μ1 := by
  intro w σ H m s Q qq
  refine ⟨_, pe_truths hc hg hm hg2 hm2 (p_ex (e := a)) na, ?_⟩
  refine ha w σ H m s _ fun v H1 m1 f1 h1 => ?_
  cases h1 with
  | @lst c vs _ hx hd => exact ⟨c, bs, rfl, SqL.of (by rw [← dqAll_bools hd]; exact (dl_some hx).2), qq _ H1 m1 f1 (Dq.int _)⟩
end
end J
/-! J33: texts between texts; dicts of texts, asked and filled. -/
namespace J
open PySem PySem.Spec
open PyProof.Rows L2
variable [KC]
def leS (i j : Str) : Bool := !decide (j.cps.toList < i.cps.toList)
section
variable {X : Cx} {ρ : REnv} {μ μ1 μ2 μ3 : Sto} {a b c e o : Expr} {pos p2 p : Pos} {s t u : Str}
theorem cChainS (ha : EV X a ρ μ (Ss s) μ1) (hb : EV X b ρ μ1 (Ss t) μ2) (hc : EV X c ρ μ2 (Ss u) μ2)
    (hm : lastMarks [.LtE, .LtE] [b, c] = false := by with_unfolding_all rfl) : EV X (.Compare a [.LtE, .LtE] [b, c] pos) ρ μ (Bb (leS s t && leS t u)) μ2 := by
  intro w σ H m sl Q q
  refine ⟨_, pe_chain op_le_str op_le_str (p_ex (e := a)) (p_ex (e := b)) (p_ex (e := c)) hm, ?_⟩
  refine ha w σ H m sl _ fun v H1 m1 f1 h1 => ?_
  cases h1
  refine hb w σ H1 m1 (sl.fr f1) _ fun v H2 m2 f2 h2 => ?_
  cases h2
  refine ⟨s, t, rfl, rfl, _, rfl, ?_⟩
  cases hk : leS s t with
  | true =>
    have hk' : (!decide (t.cps.toList < s.cps.toList)) = true := hk
    rw [hk']
    refine iteT ?_
    refine hc w σ H2 m2 ((sl.fr f1).fr f2) _ fun v H3 m3 f3 h3 => ?_
    cases h3
    refine ⟨t, u, rfl, rfl, ?_⟩
    have := q (.bl (leS t u)) H3 m3 ((f1.trans f2).trans f3)
    rw [hk, Bool.true_and] at this
    exact this (Dq.bl _)
  | false =>
    have hk' : (!decide (t.cps.toList < s.cps.toList)) = false := hk
    rw [hk']
    refine iteF ?_
    have := q (.bl false) H2 m2 (f1.trans f2)
    rw [hk, Bool.false_and] at this
    exact this (Dq.bl _)
theorem tChainS (ha : EV X a ρ μ (Ss s) μ1) (hb : EV X b ρ μ1 (Ss t) μ2) (hc : EV X c ρ μ2 (Ss u) μ2)
    (hm : lastMarks [.LtE, .LtE] [b, c] = false := by with_unfolding_all rfl) : TV X (.Compare a [.LtE, .LtE] [b, c] pos) ρ μ (leS s t && leS t u) μ2 := by
  intro w σ H m sl Q q
  refine ⟨_, pt_chain op_le_str op_le_str (p_ex (e := a)) (p_ex (e := b)) (p_ex (e := c)) hm, ?_⟩
  refine ha w σ H m sl _ fun v H1 m1 f1 h1 => ?_
  cases h1
  refine hb w σ H1 m1 (sl.fr f1) _ fun v H2 m2 f2 h2 => ?_
  cases h2
  refine ⟨s, t, rfl, rfl, _, rfl, ?_⟩
  cases hk : leS s t with
  | true =>
    have hk' : (!decide (t.cps.toList < s.cps.toList)) = true := hk
    rw [hk']
    refine iteT ?_
    refine hc w σ H2 m2 ((sl.fr f1).fr f2) _ fun v H3 m3 f3 h3 => ?_
    cases h3
    refine ⟨t, u, rfl, rfl, _, rfl, ?_⟩
    have := q H3 m3 ((f1.trans f2).trans f3)
    rwa [hk, Bool.true_and] at this
  | false =>
    have hk' : (!decide (t.cps.toList < s.cps.toList)) = false := hk
    rw [hk']
    refine iteF ⟨_, rfl, ?_⟩
    have := q H2 m2 (f1.trans f2)
    rwa [hk, Bool.false_and] at this
end
/-! ### dicts of texts -/
abbrev KD := List (Str × PyData)
def kvE (kv : KD) : List Key := kv.map fun p => (.inr p.1 : Key)
def dkD (kv : KD) : PyData := .dict (((kvE kv).map keyD).zip (kv.map (·.2)))
def kget (kv : KD) (s : Str) : Option PyData := (kv.find? fun p => decide (p.1 = s)).map (·.2)
def putD (kv : KD) (s : Str) (d : PyData) : KD := if (kv.any fun p => decide (p.1 = s)) = true then kv.map (fun p => if p.1 = s then (p.1, d) else p) else kv ++ [(s, d)]
theorem keyD_inj {a b : Key} (h : keyD a = keyD b) : a = b := by
  cases a <;> cases b <;> simp [keyD] at h <;> rw [h]
theorem zip_injK : ∀ {ns ms : List Key} {ds es : List PyData}, ns.length = ds.length → ms.length = es.length → (ns.map keyD).zip ds = (ms.map keyD).zip es → ns = ms ∧ ds = es
  | [], [], [], [], _, _, _ => ⟨rfl, rfl⟩
  | [], m :: ms, [], e :: es, _, _, h => by simp at h
  | n :: ns, [], d :: ds, [], _, _, h => by simp at h
  | n :: ns, m :: ms, d :: ds, e :: es, h1, h2, h => by
    simp only [List.map_cons, List.zip_cons_cons, List.cons.injEq, Prod.mk.injEq] at h
    obtain ⟨⟨q, rfl⟩, h⟩ := h
    obtain rfl := keyD_inj q
    obtain ⟨rfl, rfl⟩ := zip_injK (by simpa using h1) (by simpa using h2) h
    exact ⟨rfl, rfl⟩
  | [], _, _ :: _, _, h1, _, _ => by simp at h1
  | _ :: _, _, [], _, h1, _, _ => by simp at h1
  | _, [], _, _ :: _, _, h2, _ => by simp at h2
  | _, _ :: _, _, [], _, h2, _ => by simp at h2
theorem dq_dk {H : Hp} {v : V} {kv : KD} (h : Dq H v (dkD kv)) : ∃ a kvs, v = .ref a ∧ H a = some (.dK kvs) ∧ kvs.map (·.1) = kvE kv ∧ DqAll H (kvs.map (·.2)) (kv.map (·.2)) := by
  unfold dkD at h
  generalize e : PyData.dict _ = d at h
  cases h with
  | @dic a kvs ks ds hx hn hd =>
    injection e with e
    have l1 : ks.length = ds.length := by rw [← hn, List.length_map, ← dqAll_len hd, List.length_map]
    obtain ⟨q1, q2⟩ := zip_injK (by simp [kvE]) l1 e
    exact ⟨a, kvs, rfl, hx, by rw [hn, q1], by rw [q2]; exact hd⟩
  | ins hx hn hd =>
    exfalso
    injection e with e
    cases kv with
    | nil => simp [kvE] at e
    | cons p kv =>
      simp only [kvE, List.map_cons, List.zip_cons_cons, List.cons.injEq, Prod.mk.injEq] at e
      exact absurd e.1.1 (by simp [keyD])
  | _ => cases e
def OptD (H : Hp) : Option V → Option PyData → Prop
  | some v, some d => Dq H v d
  | none, none => True
  | _, _ => False
theorem kget_val {H : Hp} {s : Str} : ∀ {kvs : List (Key × V)} {kv : KD}, kvs.map (·.1) = kvE kv → DqAll H (kvs.map (·.2)) (kv.map (·.2)) → OptD H (valV kvs (.inr s)) (kget kv s)
  | [], [], _, _ => trivial
  | [], p :: kv, h, _ => by simp [kvE] at h
  | q :: kvs, [], h, _ => by simp [kvE] at h
  | q :: kvs, p :: kv, h, hd => by
    simp only [kvE, List.map_cons, List.cons.injEq] at h
    simp only [List.map_cons] at hd
    cases hd with
    | cons d1 d2 =>
      have ih := kget_val (s := s) (kvs := kvs) (kv := kv) h.2 d2
      by_cases e : p.1 = s
      · have e2 : q.1 = Sum.inr s := by rw [h.1, e]
        rw [valV_pos e2]
        unfold kget
        rw [List.find?_cons, decide_eq_true e]
        exact d1
      · have e2 : ¬ q.1 = Sum.inr s := fun z => e (by rw [h.1] at z; exact Sum.inr.inj z)
        rw [valV_neg e2]
        unfold kget at ih ⊢
        rw [List.find?_cons, decide_eq_false e]
        exact ih
def rDIn : R2 := fun x y H Q => ∃ a o, y = .ref a ∧ DGet H a x o ∧ Q (.bl o.isSome) H
section
variable {X : Cx} {ρ : REnv} {μ μ1 μ2 μ3 : Sto} {a b c e o : Expr} {pos p2 p : Pos} {s t u : Str} {kv : KD} {d : PyData}
theorem op_dIn (hu : X.A.units + 1 < cLine) : OpR X (compareOp .In) rDIn := by
  intro pins s σ H x y v u Q I rx ry h
  obtain ⟨a, o, rfl, g, q⟩ := h
  obtain rfl : u = Value.ref a := ry
  exact d_in hu I g rx fun s' I' => ⟨.bl o.isSome, H, I', rfl, q⟩
theorem r2_dIn {K : PySem.W.Frag} : R2V K rDIn (Ss s) (.dat (dkD kv)) (Bb (kget kv s).isSome) μ := r2v_pure fun w H v u m ha hb => by
  cases ha
  obtain ⟨a, kvs, rfl, hx, hn, hd⟩ := dq_dk hb
  have hv := kget_val (s := s) hn hd
  have e : (valV kvs (.inr s)).isSome = (kget kv s).isSome := by
    cases q1 : valV kvs (.inr s) <;> cases q2 : kget kv s <;> rw [q1, q2] at hv <;> first | rfl | exact hv.elim
  refine ⟨_, Dq.bl _, fun Q q => ⟨a, valV kvs (.inr s), rfl, DGet.k (k := .inr s) (dl_some hx).2, ?_⟩⟩
  rw [e]
  exact q
theorem tDIn (hu : X.A.units + 1 < cLine) (ha : EV X a ρ μ (Ss s) μ1) (hb : EV X b ρ μ1 (.dat (dkD kv)) μ2) (hm : behindInMarks .In b = false := by rfl) : TV X (.Compare a [.In] [b] pos) ρ μ (kget kv s).isSome μ2 := TV.cmp (op_dIn hu) hm ha hb r2_dIn
theorem EV.dget (hu : X.A.units + 1 < cLine) (ho : EV X o ρ μ (.dat (dkD kv)) μ1) (hi : EV X e ρ μ1 (Ss s) μ2) (h : kget kv s = some d) (hs : NoSl e := by exact fun _ _ => rfl) : EV X (.Subscript o e pos) ρ μ (.dat d) μ2 := by
  intro w σ H m sl Q q
  refine ⟨_, pe_dget hu (p_ex (e := o)) (p_ex (e := e)) hs, ?_⟩
  refine ho w σ H m sl _ fun v H1 m1 f1 h1 => ?_
  refine hi w σ H1 m1 (sl.fr f1) _ fun u H2 m2 f2 h2 => ?_
  cases h2
  obtain ⟨a, kvs, rfl, hx, hn, hd⟩ := dq_dk (h1.fr f2)
  have hv := kget_val (s := s) hn hd
  rw [h] at hv
  cases q1 : valV kvs (.inr s) with
  | none => rw [q1] at hv; exact hv.elim
  | some z =>
    rw [q1] at hv
    have g := DGet.k (k := (.inr s : Key)) (dl_some hx).2
    rw [q1] at g
    exact ⟨a, z, rfl, g, q z H2 m2 (f1.trans f2) hv⟩
end
/-! ### a dict that is being filled: at D, kept out -/
def KvH (H : Hp) (w : Wd) (D : Addr) (kv : KD) : Prop := ∃ kvs, H D = some (.dK kvs) ∧ kvs.map (·.1) = kvE kv ∧ DqAll (dl H w.all) (kvs.map (·.2)) (kv.map (·.2))
theorem KvH.fr {K : PySem.W.Frag} {H H' : Hp} {w : Wd} {D : Addr} {kv : KD} {μ : Sto} (h : KvH H w D kv) (m : Mem K H w μ) (hD : D ∈ w.ξ) (f : Fr w.α H H') : KvH H' w D kv := by
  obtain ⟨kvs, e, hn, hd⟩ := h
  exact ⟨kvs, f D _ e (m.out D hD) (fun q z => by cases z), hn, dqAll_mono f.all _ _ hd⟩
theorem put_keys {s : Str} {v : V} {d : PyData} {H : Hp} (hv : Dq H v d) : ∀ {kvs : List (Key × V)} {kv : KD}, kvs.map (·.1) = kvE kv → DqAll H (kvs.map (·.2)) (kv.map (·.2)) →
    (kvs.any fun q => decide (q.1 = Sum.inr s)) = (kv.any fun p => decide (p.1 = s)) ∧ (kvs.map fun q => if q.1 = Sum.inr s then (q.1, v) else q).map (·.1) = kvE (kv.map fun p => if p.1 = s then (p.1, d) else p) ∧
    DqAll H ((kvs.map fun q => if q.1 = Sum.inr s then (q.1, v) else q).map (·.2)) ((kv.map fun p => if p.1 = s then (p.1, d) else p).map (·.2))
  | [], [], _, _ => ⟨rfl, rfl, .nil⟩
  | [], p :: kv, h, _ => by simp [kvE] at h
  | q :: kvs, [], h, _ => by simp [kvE] at h
  | q :: kvs, p :: kv, h, hd => by
    simp only [kvE, List.map_cons, List.cons.injEq] at h
    simp only [List.map_cons] at hd
    cases hd with
    | cons d1 d2 =>
      obtain ⟨i1, i2, i3⟩ := put_keys (s := s) hv (kvs := kvs) (kv := kv) h.2 d2
      unfold kvE at i2 ⊢
      by_cases e : p.1 = s
      · have e2 : q.1 = Sum.inr s := by rw [h.1, e]
        refine ⟨by rw [List.any_cons, List.any_cons, decide_eq_true e, decide_eq_true e2, Bool.true_or, Bool.true_or], ?_, ?_⟩
        · rw [List.map_cons, List.map_cons, List.map_cons, List.map_cons, i2, if_pos e, if_pos e2]
          rw [h.1]
        · rw [List.map_cons, List.map_cons, List.map_cons, List.map_cons, if_pos e, if_pos e2]
          exact .cons hv i3
      · have e2 : ¬ q.1 = Sum.inr s := fun z => e (by rw [h.1] at z; exact Sum.inr.inj z)
        refine ⟨by rw [List.any_cons, List.any_cons, decide_eq_false e, decide_eq_false e2, i1], ?_, ?_⟩
        · rw [List.map_cons, List.map_cons, List.map_cons, List.map_cons, i2, if_neg e, if_neg e2, h.1]
        · rw [List.map_cons, List.map_cons, List.map_cons, List.map_cons, if_neg e, if_neg e2]
          exact .cons d1 i3
theorem KvH.put {K : PySem.W.Frag} {H : Hp} {w : Wd} {D : Addr} {kv : KD} {μ : Sto} {s : Str} {v : V} {d : PyData} {kvs : List (Key × V)} (e : H D = some (.dK kvs)) (hn : kvs.map (·.1) = kvE kv) (hd : DqAll (dl H w.all) (kvs.map (·.2)) (kv.map (·.2))) (hD : D ∈ w.ξ) (hv : Dq (dl H w.all) v d) :
    KvH (upd H D (.dK (putK kvs (.inr s) v))) w D (putD kv s d) := by
  have g : Same (dl H w.all) (dl (upd H D (.dK (putK kvs (.inr s) v))) w.all) := fun b o hb => by
    have nt := dl_nt hb
    obtain ⟨n1, e1⟩ := dl_some hb
    exact dl_of n1 (by rw [upd_ne (show b ≠ D from fun z => n1 (List.mem_append_right _ (by rw [z]; exact hD)))]; exact e1) nt
  obtain ⟨a1, a2, a3⟩ := put_keys (s := s) hv hn hd
  refine ⟨_, upd_same, ?_, dqAll_mono g _ _ ?_⟩
  · unfold putK putD
    rw [a1]
    by_cases q : (kv.any fun p => decide (p.1 = s)) = true
    · rw [if_pos q, if_pos q]; exact a2
    · rw [if_neg q, if_neg q, List.map_append, hn]
      simp [kvE]
  · unfold putK putD
    rw [a1]
    by_cases q : (kv.any fun p => decide (p.1 = s)) = true
    · rw [if_pos q, if_pos q]; exact a3
    · rw [if_neg q, if_neg q, List.map_append, List.map_append]
      exact dqAll_append hd (.cons hv .nil)
theorem putD_len {kv : KD} {s : Str} {d : PyData} : (putD kv s d).length ≤ kv.length + 1 := by
  unfold putD
  split
  · rw [List.length_map]; omega
  · simp
def SD (X : Cx) (D : Addr) (sts : List Stmt) (ρ : REnv) (μ : Sto) (kv : KD) (P : REnv → KD → Prop) (R : KD → Prop) : Prop := ∀ w σ H Ee, D ∈ w.ξ → Mem X.K H w μ → Sl X.K H w σ ρ → KvH H w D kv → (∀ ρ' kv' σ' H', P ρ' kv' → Mem X.K H' w μ → Sl X.K H' w σ' ρ' → KvH H' w D kv' → Fr (D :: w.α) H H' → Ee.nx σ' H') →
  (∀ kv' H', R kv' → Mem X.K H' w μ → KvH H' w D kv' → Fr (D :: w.α) H H' → Ee.rt (.ref D) H') → SX X sts Ee σ H
theorem Fr.wide {S T : List Addr} {H H' : Hp} (f : Fr S H H') (h : ∀ b ∈ S, b ∈ T) : Fr T H H' := fun b o e n nt => f b o e (fun z => n (h b z)) nt
section
variable {X : Cx} {ρ ρ1 : REnv} {μ : Sto} {e ek ev tg iter : Expr} {rest body : List Stmt} {pos p' p2 : Pos} {x : Str} {r : Ent} {D : Addr} {kv : KD} {P : REnv → KD → Prop} {R : KD → Prop} {s : Str} {d : PyData} {ds : List PyData}
theorem SD.nil (h : P ρ kv) : SD X D [] ρ μ kv P R := fun w σ H Ee hD m sl hk q q2 => ⟨_, pss_nil, q ρ kv σ H h m sl hk .refl⟩
theorem SD.ret (h : EV X e ρ μ (.raw (.ref D)) μ) (hR : R kv) : SD X D (.Return (some e) pos :: rest) ρ μ kv P R := by
  intro w σ H Ee hD m sl hk q q2
  refine ⟨_, pss_cons (ps_ret (p_ex (e := e))) pss_never, ?_⟩
  refine h w σ H m sl _ fun v H1 m1 f1 hv => ?_
  obtain rfl : v = V.ref D := hv
  exact q2 kv H1 hR m1 (hk.fr m hD f1) (f1.wide fun b hb => List.mem_cons_of_mem _ hb)
theorem SD.mono {Q : REnv → KD → Prop} {sts : List Stmt} (h : SD X D sts ρ μ kv P R) (i : ∀ ρ kv, P ρ kv → Q ρ kv) : SD X D sts ρ μ kv Q R := fun w σ H Ee hD m sl hk q q2 => h w σ H Ee hD m sl hk (fun ρ' kv' σ' H' z => q ρ' kv' σ' H' (i _ _ z)) q2
theorem SD.set {i : Nat} (h : EV X e ρ μ r μ) (hN : X.N.Nodup) (hi : X.N[i]? = some x) (hx : Loc X.env.scope x) (hr : SD X D rest (ρ.set i (some r)) μ kv P R) (hs : swapsWith e (some (.Name x p')) pos.line X.env = pure false := by rfl)
    (hf : X.fn x = true ∨ X.env.scope.names.lookup x = some .local := by first | exact .inl rfl | exact .inr rfl | assumption) : SD X D (.Assign [.Name x p'] e pos :: rest) ρ μ kv P R := by
  intro w σ H Ee hD m sl hk q q2
  refine ⟨_, pss_cons (ps_set hN hi hx (p_ex (e := e)) hs hf) p_sx, ?_⟩
  refine h w σ H m sl _ fun v H1 m1 f1 h1 => ?_
  exact hr w _ H1 Ee hD m1 ((sl.fr f1).set h1) (hk.fr m hD f1) (fun ρ' kv' σ' H' z m' s' k' f' => q ρ' kv' σ' H' z m' s' k' ((f1.wide fun b hb => List.mem_cons_of_mem _ hb).trans f')) fun kv' H' z m' k' f' => q2 kv' H' z m' k' ((f1.wide fun b hb => List.mem_cons_of_mem _ hb).trans f')
theorem Mem.outD {K : PySem.W.Frag} {H : Hp} {w : Wd} {o : HO} (m : Mem K H w μ) (hD : D ∈ w.ξ) (po : Pl o) : Mem K (upd H D o) w μ ∧ Same (dl H w.all) (dl (upd H D o) w.all) := by
  have g : Same (dl H w.all) (dl (upd H D o) w.all) := fun b u hb => by
    have nt := dl_nt hb
    obtain ⟨n1, e1⟩ := dl_some hb
    exact dl_of n1 (by rw [upd_ne (show b ≠ D from fun z => n1 (List.mem_append_right _ (by rw [z]; exact hD)))]; exact e1) nt
  refine ⟨⟨m.cst, m.nd, m.len, fun k a xs h1 h2 => ?_, m.out, fun b hb => ?_, tabs_upd m.tab fun u e => ?_⟩, g⟩
  · obtain ⟨vs, e, hd⟩ := m.cell k a xs h1 h2
    refine ⟨vs, ?_, dqAll_mono g _ _ hd⟩
    have na : a ≠ D := fun z => m.out D hD (by rw [← z]; exact List.mem_iff_getElem?.mpr ⟨k, h1⟩)
    rw [upd_ne na]
    exact e
  · by_cases hb' : b = D
    · rw [hb']
      exact ⟨o, upd_same, po⟩
    · obtain ⟨u, e, pu⟩ := m.ext b hb
      exact ⟨u, by rw [upd_ne hb']; exact e, pu⟩
  · obtain ⟨u', e', pu⟩ := m.ext D hD
    rw [e] at e'
    cases e'
    exact pu
theorem SD.put {eo : Expr} (hu : X.A.units + 1 < cLine) (ho : EV X eo ρ μ (.raw (.ref D)) μ) (hk : EV X ek ρ μ (Ss s) μ) (hv : EV X ev ρ μ (.dat d) μ) (hl : kv.length ≤ 1000) (hr : SD X D rest ρ μ (putD kv s d) P R)
    (hs : swapsWith ev (some (.Subscript eo ek p')) pos.line X.env = pure false := by rfl) : SD X D (.Assign [.Subscript eo ek p'] ev pos :: rest) ρ μ kv P R := by
  intro w σ H Ee hD m sl hkv q q2
  refine ⟨_, pss_cons (ps_dput hu (p_ex (e := eo)) (p_ex (e := ek)) (p_ex (e := ev)) hs) p_sx, ?_⟩
  refine hv w σ H m sl _ fun v H1 m1 f1 h1 => ?_
  refine ho w σ H1 m1 (sl.fr f1) _ fun u H2 m2 f2 h2 => ?_
  obtain rfl : u = V.ref D := h2
  refine hk w σ H2 m2 ((sl.fr f1).fr f2) _ fun y H3 m3 f3 h3 => ?_
  cases h3
  have f13 := (f1.trans f2).trans f3
  obtain ⟨kvs, e, hn, hd⟩ := hkv.fr m hD f13
  have hlen : kvs.length ≤ 1000 := by
    have : (kvs.map (·.1)).length = (kvE kv).length := by rw [hn]
    simp [kvE] at this
    omega
  obtain ⟨m4, g4⟩ := Mem.outD (D := D) (o := .dK (putK kvs (.inr s) v)) m3 hD ⟨(fun q z => by cases z), (fun q z => by cases z)⟩
  refine ⟨D, _, rfl, DPut.k (k := (.inr s : Key)) e (small1000 hlen), ?_⟩
  have ff : Fr (D :: w.α) H (upd H3 D (.dK (putK kvs (.inr s) v))) := Fr.trans (f13.wide fun b hb => List.mem_cons_of_mem _ hb) fun b o e n nt => by
    rw [upd_ne (show b ≠ D from fun z => n (by rw [z]; exact List.mem_cons_self))]
    exact e
  exact hr w σ _ Ee hD m4 ((((sl.fr f1).fr f2).fr f3).same g4) (KvH.put (K := X.K) (μ := μ) e hn hd hD ((h1.fr f2).fr f3)) (fun ρ' kv' σ' H' z m' s' k' f' => q ρ' kv' σ' H' z m' s' k' (ff.trans f')) fun kv' H' z m' k' f' => q2 kv' H' z m' k' (ff.trans f')
theorem SD.for_ {is : List Nat} (hi : IV X tg iter ρ μ ds μ) (Iv : Nat → REnv → KD → Prop) (h0 : Iv 0 ρ kv)
    (hs : ∀ (i : Nat) (d : PyData) (ρ : REnv) (kv : KD), ds[i]? = some d → Iv i ρ kv → ∃ ρ', GV X tg d ρ ρ' is ∧ SD X D body ρ' μ kv (Iv (i + 1)) fun _ => False)
    (hd : ∀ ρ kv, Iv ds.length ρ kv → SD X D rest ρ μ kv P R) (hc : X.calm = true := by rfl) (hp : PassesOwn (model X.prog X.w) X.A X.env X.xe := by exact PassesOwn.never) (hst : ∀ x, foldedSetIterable iter X.env x = pure x := by intro _; rfl) : SD X D (.For tg iter body [] pos :: rest) ρ μ kv P R := by
  intro w σ H Ee hD m sl hk q q2
  refine ⟨_, pss_cons (ps_for hp hc (p_ix (tg := tg) (e := iter)) (p_gx (e := tg)) (p_sx (e := body)) hst) (p_sx (e := rest)), ?_⟩
  refine hi w σ H m sl _ fun J H1 m1 f1 wk => ?_
  refine ⟨fun i k σ' H' => k = ds.length - i ∧ i ≤ ds.length ∧ ∃ ρ' kv', Iv i ρ' kv' ∧ Mem X.K H' w μ ∧ Sl X.K H' w σ' ρ' ∧ KvH H' w D kv' ∧ Fr (D :: w.α) H1 H',
    ⟨ds.length, by simp, Nat.zero_le _, ρ, kv, h0, m1, sl.fr f1, hk.fr m hD f1, .refl⟩, ?_⟩
  rintro i k σ' H' ⟨rfl, hi', ρ', kv', iv, m2, s2, k2, f2⟩
  have sub : ∀ b ∈ D :: w.α, b ∈ w.all := fun b hb => by
    rcases List.mem_cons.mp hb with rfl | hb
    · exact List.mem_append_right _ hD
    · exact List.mem_append_left _ hb
  have gT : Same (dl H1 w.all) (dl H' w.all) := f2.sameDl sub
  have g : Same (dl H1 w.all) H' := gT.trans dl_same
  by_cases hlt : i < ds.length
  · obtain ⟨d, hdi⟩ : ∃ d, ds[i]? = some d := ⟨ds[i], by simp [hlt]⟩
    obtain ⟨go, yl⟩ := wk.go H' g i d hdi
    refine .inr ⟨go, fun σ3 H3 => ∃ ρ' kv', Iv (i + 1) ρ' kv' ∧ Mem X.K H3 w μ ∧ Sl X.K H3 w σ3 ρ' ∧ KvH H3 w D kv' ∧ Fr (D :: w.α) H1 H3, fun σ3 H3 h => ⟨ds.length - (i + 1), by omega, rfl, hlt, h⟩, fun x H3 y3 => ?_⟩
    obtain ⟨s23, dx⟩ := yl x H3 y3
    have dx3 : Dq (dl H3 w.all) x d := dx _ gT fun b hb' => by
      rcases List.mem_append.mp hb' with z | z
      · obtain ⟨vs, e⟩ := m2.there z
        exact ⟨_, e⟩
      · exact m2.ex1 z
    have f23 : Fr w.α H' H3 := Fr.of_same s23
    obtain ⟨ρ3, hg, hbody⟩ := hs i d ρ' kv' hdi iv
    refine hg w σ' H3 μ x (m2.same s23) (s2.fr f23) dx3 _ fun σ4 s4 _ => ?_
    have nxt : ∀ ρ5 kv5 σ5 H5, Iv (i + 1) ρ5 kv5 → Mem X.K H5 w μ → Sl X.K H5 w σ5 ρ5 → KvH H5 w D kv5 → Fr (D :: w.α) H3 H5 → ∃ ρ' kv', Iv (i + 1) ρ' kv' ∧ Mem X.K H5 w μ ∧ Sl X.K H5 w σ5 ρ' ∧ KvH H5 w D kv' ∧ Fr (D :: w.α) H1 H5 := fun ρ5 kv5 σ5 H5 iv5 m5 s5 k5 f5 => ⟨ρ5, kv5, iv5, m5, s5, k5, (f2.trans (Fr.of_same s23)).trans f5⟩
    exact hbody w σ4 H3 _ hD (m2.same s23) s4 (k2.fr m2 hD f23) nxt fun _ _ z => z.elim
  · have ei : i = ds.length := by omega
    subst ei
    refine .inl ⟨wk.stop H' g, ?_⟩
    exact hd ρ' kv' iv w σ' H' Ee hD m2 s2 k2 (fun ρ5 kv5 σ5 H5 z m5 s5 k5 f5 => q ρ5 kv5 σ5 H5 z m5 s5 k5 (((f1.wide fun b hb => List.mem_cons_of_mem _ hb).trans f2).trans f5)) fun kv5 H5 z m5 k5 f5 => q2 kv5 H5 z m5 k5 (((f1.wide fun b hb => List.mem_cons_of_mem _ hb).trans f2).trans f5)
end
end J
/-! J34: calls without arguments; a value and a new list at once. -/
namespace J
open PySem PySem.Spec
open PyProof.Rows L2
variable [KC]
section
variable {X : Cx} {W : WX} {n : Nat} {ρ : REnv} {μ μ1 μ2 : Sto} {P : Out → Prop} {a b : Expr} {rest : List Stmt} {pos p : Pos} {nn : Str} {r r1 : Ent} {ys : List PyData}
theorem EV.call0 {k : Nat} {C : Con} (F : Cal X.prog X.w X.K X.mg X.base nn k [] C) (hr : Room k X.A) (hC : C [] μ r μ1) (hg : Gl X nn := by rfl) (hdb : (nn == ("__debug__" : Str)) = false := by decide) : EV X (.Call (.Name nn p) [] [] pos) ρ μ r μ1 := by
  intro w σ H m s Q q
  obtain ⟨f, fd, G, hm, hk, hb⟩ := F.ex
  refine ⟨_, pe_call0 (E := E0) G hr hg hm hk hb .nil pass0 hdb, ?_⟩
  exact ⟨w, μ, [], r, μ1, m, .nil, rfl, hC, fun v H' m2 f2 h2 => q v H' m2 f2 h2⟩
theorem ST.parC {i j : Nat} {x y : Str} {px py pt : Pos} {kt k2 pt2} (ha : EV X a ρ μ r1 μ1) (hb : EVF X b ρ μ1 ys μ2) (hN : X.N.Nodup) (hi : X.N[i]? = some x) (hj : X.N[j]? = some y) (hij : i ≠ j)
    (hx : X.env.scope.names.lookup x = some .local) (hy : X.env.scope.names.lookup y = some .local) (hr : ST X W n rest ((ρ.set i (some r1)).set j (some (.ptr μ2.length))) (μ2 ++ [ys]) P)
    (hw : swappedStores [.Tuple [.Name x px, .Name y py] kt pt] (.Tuple [a, b] k2 pt2) X.env = pure (some [x, y])) (hc : X.calm = true := by rfl)
    (hs : swapsWithSole [.Tuple [.Name x px, .Name y py] kt pt] (.Tuple [a, b] k2 pt2) pos.line X.env = pure false := by rfl) (he : starEach [a, b] X.env = (false, eval a X.env) :: starEach [b] X.env := by rfl) (he2 : starEach [b] X.env = (false, eval b X.env) :: starEach [] X.env := by rfl) : ST X W n (.Assign [.Tuple [.Name x px, .Name y py] kt pt] (.Tuple [a, b] k2 pt2) pos :: rest) ρ μ P := by
  intro w σ H D hn m s q
  refine ⟨_, pss_cons (ps_par hc hN hi hj hij hx hy (pa_cons (p_ex (e := a)) (pa_cons (p_ex (e := b)) pa_nil he2) he) hw hs) p_sx, ?_⟩
  refine ha w σ H m s _ fun v H1 m1 f1 h1 => ?_
  refine hb w σ H1 m1 (s.fr f1) _ fun c H2 vs m2 f2 hp e2 hd2 => ?_
  obtain ⟨mm, ss⟩ := new_cell (i := j) m1 ((s.fr f1).set (i := i) h1) m2 f2 hp e2 hd2
  have np : c ∉ w.α := fun z => m1.freshN hp (List.mem_append_left _ z)
  exact ⟨_, _, rfl, hr (w.add [c]) _ H2 D (by simp; omega) mm ss fun o ho => Fin.grow (q o ho) hn (f1.trans f2) fun b hb => by
    rw [List.mem_singleton] at hb
    subst hb
    exact Nw.back f1 hp np⟩
end
end J
/-! J35: lists repeated; defs that make lambdas and change what they were given; f(a new list, a value). -/
namespace J
open PySem PySem.Spec
open PyProof.Rows L2
variable [KC]
theorem dqAll_rep {H : Hp} {vs : List V} {ds : List PyData} (h : DqAll H vs ds) : ∀ n : Nat, DqAll H (List.replicate n vs).flatten (List.replicate n ds).flatten
  | 0 => .nil
  | n + 1 => by
    rw [List.replicate_succ, List.replicate_succ, List.flatten_cons, List.flatten_cons]
    exact dqAll_append h (dqAll_rep h n)
section
variable {K : PySem.W.Frag} {μ : Sto} {ds : List PyData}
theorem r2_rep {n : Nat} (h1 : n ≤ 1000) (h2 : ds.length ≤ 1000) : R2V K rRep (Ls ds) (Ii (n : Int)) (Ls (List.replicate n ds).flatten) μ := fun w H v u m a b Q q => by
  cases a with
  | lst ha hd =>
    cases b
    have hz : n * ds.length ≤ 1000 * 1000 := Nat.mul_le_mul h1 h2
    refine ⟨_, (n : Int), _, rfl, rfl, (dl_some ha).2, by omega, by omega, ?_, ?_⟩
    · rw [dqAll_len hd, Int.toNat_natCast, Nat.mul_comm]
      exact sz hz
    · rw [Int.toNat_natCast]
      exact new_lst m (dqAll_rep hd n) q
end
section
variable {X : Cx} {ρ : REnv} {μ μ1 μ2 : Sto} {a b e e2 : Expr} {pos p : Pos} {xs ds : List PyData} {n : Str} {k : Nat} {d : PyData}
theorem oRep {m : Nat} (ha : EV X a ρ μ (Ls ds) μ1) (hb : EV X b ρ μ1 (Ii (m : Int)) μ2) (h1 : m ≤ 1000) (h2 : ds.length ≤ 1000) : EV X (.BinOp a .Mult b pos) ρ μ (Ls (List.replicate m ds).flatten) μ2 := ha.op op_rep hb (r2_rep h1 h2)
/-- f(a new list, a value) -/
theorem EV.callNewP2 {C : ConP} {b : Bool} {x1 x2 : Str} {Φ : Ent → Sto → Prop} (F : CalGP X.prog X.w X.K X.mg X.base n k [x1, x2] C) (hgd : X.A.guards = some []) (hr : Room k X.A) (ha : EVF X e ρ μ xs μ1) (hb2 : EV X e2 ρ μ1 (.dat d) μ1) (hC : C [.ptr μ1.length, .dat d] (μ1 ++ [xs]) Φ) (hΦ : ∀ r μ', Φ r μ' → r = Bb b ∧ ∃ ys, μ' = μ1 ++ [ys])
    (hg : Gl X n := by rfl) (hdb : (n == ("__debug__" : Str)) = false := by decide) (he : starEach [e, e2] X.env = (false, eval e X.env) :: starEach [e2] X.env := by rfl) (he2 : starEach [e2] X.env = (false, eval e2 X.env) :: starEach [] X.env := by rfl) (hpl : (backTo pos (starEach [e2] X.env)).any (·.1) = false := by rfl) :
    EV X (.Call (.Name n p) [e, e2] [] pos) ρ μ (Bb b) μ1 := by
  intro w σ H m s Q q
  obtain ⟨f, fd, G, hm, hk, hb⟩ := F.ex
  refine ⟨tCall (SpP X.K [x1, x2] C) [] E0 (tCons (EX X e) (tCons (EX X e2) tNil)), ⟨fun pins s0 σ0 H0 Q0 I h => ?_⟩, ?_⟩
  · refine wpAny_Call_Name_kw (ld_glob I hg hm ?_ hdb)
    refine PySem.W.callWith_K (h₀ := X.base) I.ok.mod.kin hk (thn ((pa_cons (p_ex (e := e)) (pa_cons (p_ex (e := e2)) pa_nil he2) he).run pos pins s0 σ0 H0 _ I h) fun us s1 ⟨vs, H1, I1, r, z⟩ => ⟨I1.kIn, ?_⟩) he hpl
    have z' : SpP X.K [x1, x2] C (vs ++ []) H1 Q0 E0 := z
    rw [List.append_nil] at z'
    exact runG G hgd hr hb I1 r z'
  · refine ha w σ H m s _ fun p0 H1 us m1 f1 hp e1 hd => ?_
    have g1 : Same (dl H w.all) (dl H1 (wk' w p0).all) := keep_outN (K := X.K) hp f1 ⟨_, e1⟩
    refine hb2 (wk' w p0) σ H1 m1 (s.same2 g1) _ fun v2 H2 m2 f2 h2 => ?_
    have hx : p0 ∉ w.ξ := fun z => m.freshN hp (List.mem_append_right _ z)
    have ha0 : p0 ∉ w.α := fun z => m.freshN hp (List.mem_append_left _ z)
    have e1' : H2 p0 = some (.lst us) := f2 p0 _ e1 ha0 (fun q z => by cases z)
    have hd' := dqAll_mono (Fr.all (w := wk' w p0) f2) _ _ hd
    have hl1 : w.α.length = μ1.length := m2.len
    have hw : (w.add [p0]).cut w.α.length = w := by
      rw [take_add (Nat.le_refl _)]
      show (⟨w.α.take w.α.length, w.ξ⟩ : Wd) = w
      rw [List.take_length]
    have sub : ∀ b ∈ (w.add [p0]).all, b ∈ (wk' w p0).all := fun b hb => all_wk'.mpr (by
      rcases List.mem_append.mp hb with z | z
      · rcases List.mem_append.mp z with z | z
        · exact .inr (List.mem_append_left _ z)
        · exact .inl (by simpa using z)
      · exact .inr (List.mem_append_right _ z))
    have h2' : Val X.K H2 (w.add [p0]) v2 (.dat d) := dq_mono (dl_sub sub) _ _ h2
    refine ⟨w.add [p0], μ1 ++ [xs], [.ptr μ1.length, .dat d], Φ, m2.adopt hx e1' hd', .cons ⟨p0, ?_, rfl⟩ (.cons h2' .nil), rfl, hC, fun r μ' v H3 hr2 m3 f3 h3 => ?_⟩
    · rw [List.getElem?_append_right (by omega), hl1]
      simp
    · obtain ⟨rfl, ys, rfl⟩ := hΦ r μ' hr2
      have mm := m3.cut w.α.length
      rw [hw, hl1, List.take_left] at mm
      cases h3
      refine q _ H3 mm (fun c o hc hn nt => f3 c o (f2 c o (f1 c o hc hn nt) hn nt) (fun z => ?_) nt) (Dq.bl b)
      rcases List.mem_append.mp z with z | z
      · exact hn z
      · have : c = p0 := by simpa using z
        exact hp o (this ▸ hc) nt
end
section
variable {w : World} {P : Program} {K : PySem.W.Frag} {base : Heap} {mg : Str → Option Value}
theorem Df.calGPL {x : Str} {st : Stmt} {N ps : List Str} {k : Nat} {C : ConP} (D : Df K mg x st) (inB : K.In base) (nsB : base.Ns mainGlobals mg) (B : LamB K mg base x) (Sc : FnScope N ps (defScope st))
    (hb : ∀ (kV doc pm : Value) (an : Option Addr) (cdv ct : Value) (us : List Value), us.length = ps.length → bindArgs (PySem.W.fnOf x x (defArgs st) (defBody st) (defScope st) .none kV doc pm an cdv ct) ⟨us, []⟩ = pure (ps.zip us))
    (hN : ps.length ≤ N.length)
    (body : ∀ (f : Addr) (cdv : Value) (A : Around) (outer : List Env) (s : Shared) (H : Hp) (E : XK), LamD K mg base x cdv → A.guards = some [] → Room k (A.deeper (envOfC x (defScope st) s.heap.objs.size f cdv)) → ∀ rs μ Φ, C rs μ Φ →
      ST (cxOf CX0 P w K mg base N x (defScope st) f cdv A outer s H E).nox W0 μ.length (defBody st) (rs.map some ++ List.replicate (N.length - rs.length) none) μ (PostP Φ)) : CalGP P w K mg base x (k + 1) ps C := by
  obtain ⟨f, fd, F, hm⟩ := D.ex
  refine ⟨f, fd, funGL F hm inB nsB B Sc (fun xs G R E h => ?_) (fun cdv B o t G xs R E hL hgd room h => ?_), hm, F.kp, F.binds hb⟩
  · obtain ⟨w0, μ, rs, Φ, _, hv, hl, _⟩ := h
    exact hv.1.trans hl
  · obtain ⟨w0, μ, rs, Φ, m, hv, hl, hC, q⟩ := h
    have hw : w0.cut μ.length = w0 := by
      show (⟨w0.α.take μ.length, w0.ξ⟩ : Wd) = w0
      rw [← m.len, List.take_length]
    refine body f cdv B o t G E hL hgd room rs μ Φ hC w0 _ G _ (Nat.le_of_eq m.len.symm) m (sl_start hv (by omega)) fun oo ho => ?_
    match oo, ho with
    | .ret r2 μ2, ho =>
      intro v G' m' f' hv'
      rw [hw] at m' hv'
      exact q r2 μ2 v G' ho m' f' hv'
end
end J
/-! J51: range with a step. -/
namespace J
open PySem PySem.Spec
open PyProof.Rows L2
variable [KC]
def rngC (lo c : Int) (n : Nat) : List PyData := (List.range n).map fun (i : Nat) => PyData.int (lo + (i : Int) * c)
theorem rngC_len {lo c : Int} {n : Nat} : (rngC lo c n).length = n := by simp [rngC]
theorem wk_rngC {lo c : Int} {n : Nat} {G : Hp} : Wk (Itc lo c n) G (rngC lo c n) := by
  refine ⟨fun H2 st i d e => ?_, fun H2 st => by show n ≤ (rngC lo c n).length; rw [rngC_len]; exact Nat.le_refl n⟩
  have hi : i < n := by
    have := (List.getElem?_eq_some_iff.mp e).1
    rwa [rngC_len] at this
  refine ⟨hi, fun x H3 y => ?_⟩
  obtain ⟨rfl, rfl⟩ := y
  refine ⟨Same.refl _, fun T st2 _ => ?_⟩
  have : d = .int (lo + (i : Int) * c) := by
    unfold rngC at e
    rw [List.getElem?_map] at e
    simp [hi] at e
    exact e.symm
  rw [this]
  exact .int _
section
variable {X : Cx} {ρ : REnv} {μ μ1 μ2 μ3 : Sto} {tg a b c : Expr} {i j k : Int} {n : Nat} {pos p : Pos}
theorem IV.rng3 (ha : EV X a ρ μ (Ii i) μ1) (hb : EV X b ρ μ1 (Ii j) μ2) (hc : EV X c ρ μ2 (Ii k) μ3) (h : RgC i j k n) (hm : X.mg "range" = none) (hg : Gl X "range" := by rfl)
    (hs : starEach [a, b, c] X.env = (false, eval a X.env) :: starEach [b, c] X.env := by rfl) (hs2 : starEach [b, c] X.env = (false, eval b X.env) :: starEach [c] X.env := by rfl) (hs3 : starEach [c] X.env = (false, eval c X.env) :: starEach [] X.env := by rfl) (hpl : (backTo pos (starEach [b, c] X.env)).any (·.1) = false := by rfl) : IV X tg (.Call (.Name "range" p) [a, b, c] [] pos) ρ μ (rngC i k n) μ3 := by
  intro w σ H m s R q
  refine ⟨_, pi_range3 hg hm (pa_cons (p_ex (e := a)) (pa_cons (p_ex (e := b)) (pa_cons (p_ex (e := c)) pa_nil hs3) hs2) hs) hs hpl, ?_⟩
  refine ha w σ H m s _ fun v H1 m1 f1 hv => ?_
  cases hv
  refine hb w σ H1 m1 (s.fr f1) _ fun v H2 m2 f2 hv => ?_
  cases hv
  refine hc w σ H2 m2 ((s.fr f1).fr f2) _ fun v H3 m3 f3 hv => ?_
  cases hv
  exact ⟨i, j, k, n, rfl, h, q _ H3 m3 ((f1.trans f2).trans f3) wk_rngC⟩
end
/-- the small ones of the laws -/
theorem rg_fin : ∀ i : _root_.Fin 4, ∀ j : _root_.Fin 41, ∀ c : _root_.Fin 4, RgC (i.val : Int) (j.val : Int) ((c.val : Int) + 1) (Builtin.Range.rangeSize (i.val : Int) (j.val : Int) ((c.val : Int) + 1)).toNat := by
  have h : ∀ i : _root_.Fin 4, ∀ j : _root_.Fin 41, ∀ c : _root_.Fin 4, ((decide ((c.val : Int) + 1 ≠ 0) && decide (((c.val : Int) + 1).natAbs < 1073741824)) && (Builtin.Range.small (i.val : Int) (j.val : Int) ((c.val : Int) + 1) && decide (0 ≤ Builtin.Range.rangeSize (i.val : Int) (j.val : Int) ((c.val : Int) + 1)))) = true := by decide +kernel
  intro i j c
  have z := h i j c
  rw [Bool.and_eq_true, Bool.and_eq_true, Bool.and_eq_true, decide_eq_true_eq, decide_eq_true_eq, decide_eq_true_eq] at z
  exact ⟨z.1.1, z.1.2, z.2.1, (Int.toNat_of_nonneg z.2.2).symm⟩
end J
/-! J57: lists and tuples of ranges; a new list of a list; a new list and a value at once. -/
namespace J
open PySem PySem.Spec
open PyProof.Rows L2
variable [KC]
section
variable {X : Cx} {a b c : Expr}
/-- an expression that makes a range with a step -/
def PRgC (X : Cx) (e : Expr) (t : L2.St → Hp → (Int → Int → Int → Hp → Prop) → Prop) : Prop :=
  ∀ (pins : List (Addr × Obj)) (s : Shared) (σ : L2.St) (H : Hp) (Q : Int → Int → Int → Hp → Prop), Inv X pins σ H s → t σ H Q →
    wpAny (model X.prog X.w) X.A (eval e X.env) (fun x s' => ∃ r i j k t u v H', x = .ref r ∧ IsRange s'.heap r i j k t u v ∧ Inv X pins σ H' s' ∧ Q i j k H') X.xe s
def tRg3 (ta : TA) : L2.St → Hp → (Int → Int → Int → Hp → Prop) → Prop := fun σ H Q => ta σ H fun vs H1 => ∃ (i j k : Int), vs = [.int i, .int j, .int k] ∧ k ≠ 0 ∧ k.natAbs < 1073741824 ∧ Q i j k H1
theorem prg_3 {ta : TA} {p pos : Pos} (hg : Gl X "range") (hm : X.mg "range" = none) (ha : PA X [a, b, c] ta)
    (hs : starEach [a, b, c] X.env = (false, eval a X.env) :: starEach [b, c] X.env := by rfl) (hpl : (backTo pos (starEach [b, c] X.env)).any (·.1) = false := by rfl) : PRgC X (.Call (.Name "range" p) [a, b, c] [] pos) (tRg3 ta) := by
  intro pins s σ H Q I h
  refine Call_ (ld_blt I hg hm boot_range (PyProof.Rows.callWith_type1 (thn (ha.run pos pins s σ H _ I h) fun us s1 ⟨vs, H1, I1, r1, q1⟩ => ?_) hs hpl))
  obtain ⟨i, j, k, e, c0, c1, q⟩ := q1
  subst e
  cases r1 with
  | cons r rr =>
    cases rr with
    | cons r' rr =>
      cases rr with
      | cons r'' rr =>
        cases rr
        obtain ⟨t, rfl⟩ := r
        obtain ⟨t', rfl⟩ := r'
        obtain ⟨t'', rfl⟩ := r''
        refine call_range_3 c0 ?_ (.inl (PyProof.noPylong_small c1))
        exact ⟨_, i, j, k, _, _, _, H1, rfl, IsRange.new .., I1.kept (t' := s1.toks) fun b o e => Heap.get?_push_of_some _ e, q⟩
def rgVC (i k : Int) (n : Nat) : List V := (List.range n).map fun m => V.int (i + (m : Nat) * k)
theorem vals_rgC {i k : Int} {n : Nat} {acc : Array Value} (h : ItemsOf (fun m v => ∃ t, v = .int (i + m * k) t) acc n) : Vals (rgVC i k n) acc.toList := by
  have e : acc.toList.length = n := by rw [Array.length_toList]; exact h.1
  unfold rgVC
  rw [← e]
  refine vals_of_get acc.toList _ fun j u hj => ?_
  obtain ⟨t, rfl⟩ := h.2 j u (by rw [← hj, Array.getElem?_toList])
  exact ⟨t, rfl⟩
variable {e : Expr} {te : L2.St → Hp → (Int → Int → Int → Hp → Prop) → Prop}
def tLstRgC (te : L2.St → Hp → (Int → Int → Int → Hp → Prop) → Prop) : TE := fun σ H Q => te σ H fun i j k H1 => ∃ n, Builtin.Range.small i j k = true ∧ Builtin.Range.rangeSize i j k = (n : Nat) ∧ n ≤ 2 ^ 24 ∧ ∀ q, H1 q = none → Q (.ref q) (upd H1 q (.lst (rgVC i k n)))
theorem pe_listRgC {p pos : Pos} (hc : X.calm = true) (hg : Gl X "list") (hm : X.mg "list" = none) (he : PRgC X e te) (na : starEach [e] X.env = (false, eval e X.env) :: starEach [] X.env := by rfl) : PE X (.Call (.Name "list" p) [e] [] pos) (tLstRgC te) := by
  refine ⟨fun pins s σ H Q I h => ?_⟩
  refine Call_ (ld_blt I hg hm boot_list (PyProof.Rows.callWith_type1 (args_cons (thn (he pins s σ H _ I h) fun x s1 hh => args_nil ?_) na) na))
  obtain ⟨r, i, j, k, t, u, v, H1, ex, hr, I1, n, b1, b2, b3, q⟩ := hh
  subst ex
  refine call_list_range (n := n) (I1.ok.hd hc) hr b1 b2 b3 fun h' tk acc c' hk e' hi => ?_
  refine ⟨.ref s1.heap.objs.size, upd H1 s1.heap.objs.size (.lst (rgVC i k n)), I1.laid hk (Nat.le_refl _) (show ObjOk X.prog X.w _ _ _ (.lst (rgVC i k n)) from ⟨?_, acc.toList, c', vals_rgC hi, ?_⟩), rfl, q _ (I1.hok.fresh (Nat.le_refl _))⟩
  · unfold rgVC
    rw [List.length_map, List.length_range, sizeLine_eq]
    exact b3
  · rw [Array.toArray_toList]; exact e'
end
section
variable {X : Cx} {W : WX} {ρ : REnv} {μ μ1 μ2 μ3 : Sto} {a b c : Expr} {pos p p2 p3 : Pos} {i j k : Int} {n n0 : Nat} {ds : List PyData} {P : Out → Prop} {rest : List Stmt} {r1 : Ent} {ys : List PyData}
theorem dq_rgC {H : Hp} {i k : Int} : ∀ (bs : List Nat), DqAll H (bs.map fun m => V.int (i + (m : Nat) * k)) (bs.map fun (m : Nat) => PyData.int (i + (m : Int) * k))
  | [] => .nil
  | _ :: bs => .cons (.int _) (dq_rgC bs)
/-- list(range(a, b, c)) -/
theorem EVF.lstRgC (T : X.mg "list" = none) (T2 : X.mg "range" = none) (hc : X.calm = true) (ha : EV X a ρ μ (Ii i) μ1) (hb : EV X b ρ μ1 (Ii j) μ2) (hcc : EV X c ρ μ2 (Ii k) μ3) (h : RgC i j k n) (hn : n ≤ 100000) (hg : Gl X "list" := by rfl) (hg2 : Gl X "range" := by rfl)
    (hs : starEach [a, b, c] X.env = (false, eval a X.env) :: starEach [b, c] X.env := by rfl) (hs2 : starEach [b, c] X.env = (false, eval b X.env) :: starEach [c] X.env := by rfl) (hs3 : starEach [c] X.env = (false, eval c X.env) :: starEach [] X.env := by rfl) (hpl : (backTo p (starEach [b, c] X.env)).any (·.1) = false := by rfl)
    (hs4 : starEach [.Call (.Name "range" p2) [a, b, c] [] p] X.env = (false, eval (.Call (.Name "range" p2) [a, b, c] [] p) X.env) :: starEach [] X.env := by rfl) : EVF X (.Call (.Name "list" p3) [.Call (.Name "range" p2) [a, b, c] [] p] [] pos) ρ μ (rngC i k n) μ3 := by
  intro w σ H m s Q q
  refine ⟨_, pe_listRgC hc hg T (prg_3 hg2 T2 (pa_cons (p_ex (e := a)) (pa_cons (p_ex (e := b)) (pa_cons (p_ex (e := c)) pa_nil hs3) hs2) hs) hs hpl) hs4, ?_⟩
  refine ha w σ H m s _ fun v H1 m1 f1 hv => ?_
  cases hv
  refine hb w σ H1 m1 (s.fr f1) _ fun v H2 m2 f2 hv => ?_
  cases hv
  refine hcc w σ H2 m2 ((s.fr f1).fr f2) _ fun v H3 m3 f3 hv => ?_
  cases hv
  obtain ⟨c0, c1, c2, c3⟩ := h
  refine ⟨i, j, k, rfl, c0, c1, n, c2, c3, Nat.le_trans hn (by decide), fun l hl => ?_⟩
  have f13 := (f1.trans f2).trans f3
  have hl0 := fresh_of m3 f13 (Nw.of hl)
  exact q l _ (rgVC i k n) (m3.keep hl) (f13.trans (Fr.of_same (Same.new hl))) hl0 upd_same (dq_rgC _)
theorem dq_rgV {H : Hp} {i : Int} : ∀ (bs : List Nat), DqAll H (bs.map fun m => V.int (i + (m : Nat))) (bs.map fun (m : Nat) => PyData.int (i + (m : Int)))
  | [] => .nil
  | _ :: bs => .cons (.int _) (dq_rgV bs)
/-- list(range(a, b)) -/
theorem EVF.lstRg2 (T : X.mg "list" = none) (T2 : X.mg "range" = none) (hc : X.calm = true) (ha : EV X a ρ μ (Ii i) μ1) (hb : EV X b ρ μ1 (Ii j) μ2) (h : RgOk i j) (hg : Gl X "list" := by rfl) (hg2 : Gl X "range" := by rfl)
    (hs : starEach [a, b] X.env = (false, eval a X.env) :: starEach [b] X.env := by rfl) (hs2 : starEach [b] X.env = (false, eval b X.env) :: starEach [] X.env := by rfl) (hpl : (backTo p (starEach [b] X.env)).any (·.1) = false := by rfl)
    (hs4 : starEach [.Call (.Name "range" p2) [a, b] [] p] X.env = (false, eval (.Call (.Name "range" p2) [a, b] [] p) X.env) :: starEach [] X.env := by rfl) : EVF X (.Call (.Name "list" p3) [.Call (.Name "range" p2) [a, b] [] p] [] pos) ρ μ (rngD i (j - i).toNat) μ2 := by
  intro w σ H m s Q q
  refine ⟨_, pe_listRg hc hg T (prg_2 hg2 T2 (p_ex (e := a)) (p_ex (e := b)) hs hs2 hpl) hs4, ?_⟩
  refine ha w σ H m s _ fun v H1 m1 f1 hv => ?_
  cases hv
  refine hb w σ H1 m1 (s.fr f1) _ fun v H2 m2 f2 hv => ?_
  cases hv
  refine ⟨i, j, rfl, rfl, h, fun l hl => ?_⟩
  have hl0 := fresh_of m2 (f1.trans f2) (Nw.of hl)
  exact q l _ (rgV i j) (m2.keep hl) ((f1.trans f2).trans (Fr.of_same (Same.new hl))) hl0 upd_same (dq_rgV _)
theorem new_tupR {K : PySem.W.Frag} {H1 : Hp} {w : Wd} {i j : Int} (m1 : Mem K H1 w μ1) {l : Addr} (hl : H1 l = none) : Mem K (upd H1 l (.tup (rgV i j))) w μ1 ∧ Fr w.α H1 (upd H1 l (.tup (rgV i j))) ∧ Val K (upd H1 l (.tup (rgV i j))) w (.ref l) (Tp (rngD i (j - i).toNat)) :=
  ⟨m1.same (Same.new hl), Fr.of_same (Same.new hl), val_tup m1 hl (dq_rgV _)⟩
/-- tuple(range(a)) -/
theorem EV.tupRg1 (T : X.mg "tuple" = none) (T2 : X.mg "range" = none) (hc : X.calm = true) (ha : EV X a ρ μ (Ii j) μ1) (h : RgOk 0 j) (hg : Gl X "tuple" := by rfl) (hg2 : Gl X "range" := by rfl)
    (hs : starEach [a] X.env = (false, eval a X.env) :: starEach [] X.env := by rfl) (hs4 : starEach [.Call (.Name "range" p2) [a] [] p] X.env = (false, eval (.Call (.Name "range" p2) [a] [] p) X.env) :: starEach [] X.env := by rfl) : EV X (.Call (.Name "tuple" p3) [.Call (.Name "range" p2) [a] [] p] [] pos) ρ μ (Tp (rngD 0 (j - 0).toNat)) μ1 := by
  intro w σ H m s Q q
  refine ⟨_, pe_tupRg hc hg T (prg_1 hg2 T2 (p_ex (e := a)) hs) hs4, ?_⟩
  refine ha w σ H m s _ fun v H1 m1 f1 hv => ?_
  cases hv
  refine ⟨j, rfl, h, fun l hl => ?_⟩
  obtain ⟨mm, ff, hv⟩ := new_tupR (i := 0) (j := j) m1 hl
  exact q _ _ mm (f1.trans ff) hv
/-- tuple(range(a, b)) -/
theorem EV.tupRg2 (T : X.mg "tuple" = none) (T2 : X.mg "range" = none) (hc : X.calm = true) (ha : EV X a ρ μ (Ii i) μ1) (hb : EV X b ρ μ1 (Ii j) μ2) (h : RgOk i j) (hg : Gl X "tuple" := by rfl) (hg2 : Gl X "range" := by rfl)
    (hs : starEach [a, b] X.env = (false, eval a X.env) :: starEach [b] X.env := by rfl) (hs2 : starEach [b] X.env = (false, eval b X.env) :: starEach [] X.env := by rfl) (hpl : (backTo p (starEach [b] X.env)).any (·.1) = false := by rfl)
    (hs4 : starEach [.Call (.Name "range" p2) [a, b] [] p] X.env = (false, eval (.Call (.Name "range" p2) [a, b] [] p) X.env) :: starEach [] X.env := by rfl) : EV X (.Call (.Name "tuple" p3) [.Call (.Name "range" p2) [a, b] [] p] [] pos) ρ μ (Tp (rngD i (j - i).toNat)) μ2 := by
  intro w σ H m s Q q
  refine ⟨_, pe_tupRg hc hg T (prg_2 hg2 T2 (p_ex (e := a)) (p_ex (e := b)) hs hs2 hpl) hs4, ?_⟩
  refine ha w σ H m s _ fun v H1 m1 f1 hv => ?_
  cases hv
  refine hb w σ H1 m1 (s.fr f1) _ fun v H2 m2 f2 hv => ?_
  cases hv
  refine ⟨i, j, rfl, rfl, h, fun l hl => ?_⟩
  obtain ⟨mm, ff, hv⟩ := new_tupR (i := i) (j := j) m2 hl
  exact q _ _ mm ((f1.trans f2).trans ff) hv
/-- list(a list): a new one -/
theorem EVF.lstL (T : X.mg "list" = none) (ha : EV X a ρ μ (Ls ds) μ1) (hg : Gl X "list" := by rfl) (hs : starEach [a] X.env = (false, eval a X.env) :: starEach [] X.env := by rfl) : EVF X (.Call (.Name "list" p) [a] [] pos) ρ μ ds μ1 := by
  intro w σ H m s Q q
  refine ⟨_, pe_callTy call_list_of hg T (by decide +kernel) (p_ax (e := [a])) (by decide) (by decide) hs (by rfl), ?_⟩
  refine (AV.cons ha AV.nil hs) w σ H m s _ fun vs H1 m1 f1 h1 => ?_
  obtain ⟨v, us, rfl, h2, h3⟩ := h1.inv
  rw [h3.inv0]
  cases h2 with
  | lst hb hd =>
    refine ⟨_, _, rfl, .inl (SqL.of (dl_some hb).2), fun l hl => ?_⟩
    exact q l _ _ (m1.keep hl) (f1.trans (Fr.of_same (Same.new hl))) (fresh_of m1 f1 (Nw.of hl)) upd_same (dqAll_mono (keep_out (K := X.K) hl (Fr.of_same (Same.new hl)) ⟨_, upd_same⟩) _ _ hd)
/-- x, y = a new list, a value -/
theorem ST.parL {i j : Nat} {d1 : PyData} {x y : Str} {px py pt : Pos} {kt k2 pt2} (ha : EVF X a ρ μ ys μ1) (hb : EV X b ρ μ1 (.dat d1) μ1) (hN : X.N.Nodup) (hi : X.N[i]? = some x) (hj : X.N[j]? = some y) (hij : i ≠ j)
    (hx : X.env.scope.names.lookup x = some .local) (hy : X.env.scope.names.lookup y = some .local) (hr : ST X W n rest ((ρ.set i (some (.ptr μ1.length))).set j (some (.dat d1))) (μ1 ++ [ys]) P)
    (hw : swappedStores [.Tuple [.Name x px, .Name y py] kt pt] (.Tuple [a, b] k2 pt2) X.env = pure (some [x, y])) (hc : X.calm = true := by rfl)
    (hs : swapsWithSole [.Tuple [.Name x px, .Name y py] kt pt] (.Tuple [a, b] k2 pt2) pos.line X.env = pure false := by rfl) (he : starEach [a, b] X.env = (false, eval a X.env) :: starEach [b] X.env := by rfl) (he2 : starEach [b] X.env = (false, eval b X.env) :: starEach [] X.env := by rfl) : ST X W n (.Assign [.Tuple [.Name x px, .Name y py] kt pt] (.Tuple [a, b] k2 pt2) pos :: rest) ρ μ P := by
  intro w σ H D hn m s q
  refine ⟨_, pss_cons (ps_par hc hN hi hj hij hx hy (pa_cons (p_ex (e := a)) (pa_cons (p_ex (e := b)) pa_nil he2) he) hw hs) p_sx, ?_⟩
  refine ha w σ H m s _ fun c H1 vs m1 f1 hp e1 hd => ?_
  have g1 : Same (dl H w.all) (dl H1 (wk' w c).all) := keep_outN (K := X.K) hp f1 ⟨_, e1⟩
  refine hb (wk' w c) σ H1 m1 (s.same2 g1) _ fun v H2 m2 f2 h2 => ?_
  have np : c ∉ w.α := fun z => m.freshN hp (List.mem_append_left _ z)
  have hx0 : c ∉ w.ξ := fun z => m.freshN hp (List.mem_append_right _ z)
  have e2 : H2 c = some (.lst vs) := f2 c _ e1 np (fun q z => by cases z)
  have hd2 := dqAll_mono (Fr.all (w := wk' w c) f2) _ _ hd
  have g2 : Same (dl H w.all) (dl H2 (wk' w c).all) := g1.trans (Fr.all (w := wk' w c) f2)
  have mm := m2.adopt hx0 e2 hd2
  have hl1 : w.α.length = μ1.length := m2.len
  have sub : ∀ b ∈ (w.add [c]).all, b ∈ (wk' w c).all := fun b hb => all_wk'.mpr (by
    rcases List.mem_append.mp hb with z | z
    · rcases List.mem_append.mp z with z | z
      · exact .inr (List.mem_append_left _ z)
      · exact .inl (by simpa using z)
    · exact .inr (List.mem_append_right _ z))
  have sl : Sl X.K H2 (w.add [c]) σ ρ := s.grow (fun b o e => dl_sub (fun b hb => sub b hb) b o (g2 b o e)) fun k cc e => by
    rw [List.getElem?_append_left (List.getElem?_eq_some_iff.mp e).1]
    exact e
  have h2' : Val X.K H2 (w.add [c]) v (.dat d1) := dq_mono (dl_sub sub) _ _ h2
  have hcell : Val X.K H2 (w.add [c]) (.ref c) (.ptr μ1.length) := ⟨c, by rw [List.getElem?_append_right (by omega), hl1]; simp, rfl⟩
  exact ⟨_, _, rfl, hr (w.add [c]) _ H2 D (by simp; omega) mm ((sl.set hcell).set h2') fun o ho => Fin.grow (q o ho) hn (f1.trans f2) fun b hb => by
    rw [List.mem_singleton] at hb
    subst hb
    exact fun o e => hp o e⟩
end
end J
/-! J59: a tuple that the module keeps; stars of lists. -/
namespace J
open PySem PySem.Spec
open PyProof.Rows L2
variable [KC]
section
variable {X : Cx} {ρ : REnv} {μ μ1 μ2 : Sto} {e : Expr} {es : List Expr} {rs : List Ent} {ds : List PyData} {n : Str} {pos : Pos}
/-- a kept tuple by its name -/
theorem EV.kept {xs : List Int} (h : ∃ a, X.mg n = some (.ref a) ∧ KC.at_ a = some xs) (hg : Gl X n := by rfl) (hd : (n == ("__debug__" : Str)) = false := by decide) : EV X (.Name n pos) ρ μ (Tp (xs.map .int)) μ := by
  obtain ⟨a, hm, hk⟩ := h
  exact gl (v := .ref a) hm rfl (fun _ => .cst hk rfl) hg hd
/-- [.., *xs, ..] of a list -/
theorem AV.starL {sp : Pos} (h : EV X e ρ μ (Ls ds) μ1) (hr : AV X es ρ μ1 rs μ2) (hs : starEach (.Starred e sp :: es) X.env = (true, eval e X.env) :: starEach es X.env := by rfl) : AV X (.Starred e sp :: es) ρ μ (dats ds ++ rs) μ2 := by
  intro w σ H m s Q q
  refine ⟨_, StX.pa_star (p_ex (e := e)) (p_ax (e := es)) hs, ?_⟩
  refine h w σ H m s _ fun v H1 m1 f1 h1 => ?_
  cases h1 with
  | lst ha hd =>
    rename_i a0 xs
    refine ⟨a0, xs, rfl, .inr (SqL.of (dl_some ha).2), ?_⟩
    refine hr w σ H1 m1 (s.fr f1) _ fun vs H2 m2 f2 h2 => ?_
    have hv : ∀ (xs : List V) (ds : List PyData), DqAll (dl H2 w.all) xs ds → Vas X.K H2 w (xs ++ vs) (dats ds ++ rs) := by
      intro xs
      induction xs with
      | nil => intro ds h; cases h; exact h2
      | cons x xs ih =>
        intro ds h
        cases h with
        | cons h1 h3 => exact .cons (r := .dat _) h1 (ih _ h3)
    exact q _ H2 m2 (f1.trans f2) (hv xs ds (dqAll_mono f2.all _ _ hd))
theorem AV.starL1 {sp : Pos} (h : EV X e ρ μ (Ls ds) μ1) (hs : starEach [.Starred e sp] X.env = (true, eval e X.env) :: starEach [] X.env := by rfl) : AV X [.Starred e sp] ρ μ (dats ds) μ1 := by
  have := AV.starL (rs := []) h AV.nil hs
  rwa [List.append_nil] at this
end
/-- one kept pair of noughts -/
theorem ck_one {K : PySem.W.Frag} {N0 : Addr} {od : Option Addr} {t1 t2 : Tok} {nn : Nat} {sl : Array (Option Value)} (h : ∀ a, KC.at_ a = if a = N0 then some [0, 0] else none) (oN : K.lookup N0 = some ⟨.type "tuple", od, .seq #[.int 0 t1, .int 0 t2] nn, sl⟩) : CkK K := fun a xs e => by
  rw [h a] at e
  by_cases ha : a = N0
  · rw [if_pos ha] at e
    cases e
    rw [ha]
    exact ⟨_, _, _, oN, rfl, rfl, Nat.le_of_ble_eq_true rfl, .cons ⟨t1, rfl⟩ (.cons ⟨t2, rfl⟩ .nil)⟩
  · rw [if_neg ha] at e
    cases e
end J
/-! J92: dicts of the module with text keys; a def that stands in a slot, called with a star. -/
namespace J
open PySem PySem.Spec
open PyProof.Rows L2
variable [KC]
section
variable {X : Cx} {ρ : REnv} {μ μ1 μ2 : Sto} {a b e : Expr} {es : List Expr} {d : Addr} {es0 : Array DictEntry} {n0 : Nat} {pos p : Pos} {s : Str} {n x : Str} {rs : List Ent} {r : Ent} {i k : Nat} {f : Addr}
/-- a global that is an object of the module -/
theorem EV.glR (hm : X.mg n = some (.ref d)) (hg : Gl X n := by rfl) (hdb : (n == ("__debug__" : Str)) = false := by decide) : EV X (.Name n p) ρ μ (.raw (.ref d)) μ := by
  intro w σ H m s Q q
  refine ⟨_, pe_glob (v := .ref d) hg hm rfl hdb, ?_⟩
  exact q _ H m (Fr.refl) rfl
theorem tNotInKD {v : Option Value} (D : KDict X.K X.w d es0 n0) (ha : EV X a ρ μ (Ss s) μ1) (hb : EV X b ρ μ1 (.raw (.ref d)) μ2) (hv : PySem.W.nsIn X.K d s = some v) (hm : behindInMarks .NotIn b = false := by rfl) : TV X (.Compare a [.NotIn] [b] pos) ρ μ (!v.isSome) μ2 :=
  TV.cmp (op_notIn_kd D) hm ha hb (r2v_pure fun w H u z m h1 h2 => by
    cases h1
    cases h2
    exact ⟨_, Dq.bl _, fun Q q => ⟨s, v, rfl, rfl, hv, q⟩⟩)
/-- d[text] -/
theorem EV.ixKD {v : V} (h : KDct X.K X.w d s v) (ha : EV X a ρ μ (.raw (.ref d)) μ1) (hb : EV X b ρ μ1 (Ss s) μ2) (hv : ∀ w H, Val X.K H w v r) (hs : PlainIx b := by exact fun _ _ => rfl) : EV X (.Subscript a b pos) ρ μ r μ2 :=
  EV.ix ix_kdict ha hb (fun w H x y m h1 h2 Q q => by
    cases h1
    cases h2
    exact ⟨d, s, v, rfl, rfl, h, q v H m Fr.refl (hv w H)⟩) hs
theorem pe_callLS {fd : FuncData} {ps : List Str} {sp : Sp} {dvs : List V} {ds : List Value} {E : XK} {t : TA} {CX : CXT} (F : FnOk X.prog X.w X.K X.mg X.base CX k f fd ps sp) (hr : Room k X.A) (hN : X.N[i]? = some x) (hv : Vis X.env.scope x) (hk : PySem.W.keepIn X.K (.ref f) = true) (hb : Binds X.K fd ps ds) (hd : Vals dvs ds) (hx : Passes CX X E) (ha : PA X (e :: es) t)
    (hdb : (x == ("__debug__" : Str)) = false := by decide) (hcd : (x == ("__classdict__" : Str)) = false := by decide)
    (he : starEach (e :: es) X.env = (false, eval e X.env) :: starEach es X.env := by rfl) (hst : (backTo pos (starEach es X.env)).any (·.1) = true := by rfl) : PE X (.Call (.Name x p) (e :: es) [] pos) (tCallL i f sp dvs E t) := by
  refine ⟨fun pins s σ H Q I h => ?_⟩
  obtain ⟨hs, ht⟩ := h
  refine wpAny_Call_Name_kw (thn ((pe_var (pos := p) hN hv hdb hcd).run pins s σ H (fun v H1 => v = .ref f ∧ H1 = H) I ⟨.ref f, hs, rfl, rfl⟩) fun u s1 ⟨v, H1, I1, r1, q1⟩ => ?_)
  obtain ⟨rfl, rfl⟩ := q1
  cases r1
  refine PySem.W.callWith_S2 (h₀ := X.base) I.ok.mod.kin hk (thn (ha.run pos pins s1 σ _ _ I1 ht) fun us s2 ⟨vs, H2, I2, r, q⟩ => ⟨I2.kIn, ?_⟩) he hst
  exact run_fn F hr hb hd hx I2 r q
/-- x(e, .., *y), x a local that holds a def of the module -/
theorem EV.callLS {ps : List Str} {C : Con} (F : Cal X.prog X.w X.K X.mg X.base n k ps C) (hf : X.mg n = some (.ref f)) (hr : Room k X.A) (h0 : ρ[i]? = some (some (.raw (.ref f)))) (hN : X.N[i]? = some x) (hv : Vis X.env.scope x) (ha : AV X (e :: es) ρ μ rs μ1) (hC : C rs μ1 r μ2) (hl : rs.length = ps.length := by rfl)
    (hdb : (x == ("__debug__" : Str)) = false := by decide) (hcd : (x == ("__classdict__" : Str)) = false := by decide)
    (he : starEach (e :: es) X.env = (false, eval e X.env) :: starEach es X.env := by rfl) (hst : (backTo pos (starEach es X.env)).any (·.1) = true := by rfl) : EV X (.Call (.Name x p) (e :: es) [] pos) ρ μ r μ2 := by
  intro w σ H m s Q q
  obtain ⟨f', fd, G, hm, hk, hb⟩ := F.ex
  obtain rfl : f' = f := by
    have := hm.symm.trans hf
    cases this
    rfl
  refine ⟨_, pe_callLS (i := i) (E := E0) G hr hN hv hk hb .nil pass0 (p_ax (e := e :: es)) hdb hcd he hst, ?_⟩
  obtain ⟨v0, hv0, e0⟩ := s.at_ i (.raw (.ref f')) h0
  obtain rfl : v0 = .ref f' := e0
  refine ⟨hv0, ha w σ H m s _ fun vs H1 m1 f1 h1 => ?_⟩
  exact ⟨w, μ1, rs, r, μ2, m1, by rw [List.append_nil]; exact h1, hl, hC, fun v H' m2 f2 h2 => q v H' m2 (f1.trans f2) h2⟩
end
end J
/-! M1: what the defs of joinrounds.forms come to, as plain functions. -/
namespace M
open PySem J
variable [KC]
def isInteger : PyData → Bool
  | .int _ => true
  | _ => false
abbrev letters : Str := "abcdefghijklmnopqrstuvwxyz"
abbrev digits : Str := "0123456789"
def signOk (c : Nat) : Bool := decide (c ∈ (letters ++ digits).cps.toList)
def nameOk (s : Str) : Bool := (decide (1 ≤ (s.length : Int)) && decide ((s.length : Int) ≤ 8)) && (match s.cps.toList with
  | [] => false
  | c :: r => decide (c ∈ letters.cps.toList) && (c :: r).all signOk)
def isName : PyData → Bool
  | .str s => nameOk s
  | _ => false
def lasts : List PyData := [.str "last 1", .str "last 2", .str "last 3", .str "last 4"]
def isGoal : PyData → Bool
  | .str s => inD (.str s) ([.str "all", .str "before"] ++ lasts)
  | _ => false

def strI (i : Int) : Str := (toString i : String)
def digList (lo hi : Int) : List PyData := (rngD lo (hi + 1 - lo).toNat).map fun
  | .int i => .str (strI i)
  | d => d
def dval (s : Str) : Int := match s.cps.toList with
  | [c] => (c : Int) - 48
  | _ => 0
def readDigit (s : Str) (lo hi : Int) : PyData := if inD (.str s) (digList lo hi) then .int (dval s) else .none
theorem dig_in {s : Str} {lo hi : Int} (h0 : 0 ≤ lo) (h9 : hi ≤ 9) (h : inD (.str s) (digList lo hi) = true) : ∃ i : Nat, i ≤ 9 ∧ lo ≤ i ∧ (i : Int) ≤ hi ∧ s = strI i := by
  unfold inD digList at h
  rw [List.any_map, List.any_eq_true] at h
  obtain ⟨d, hd, he⟩ := h
  unfold rngD at hd
  obtain ⟨k, hk, rfl⟩ := List.mem_map.mp hd
  have hk' := List.mem_range.mp hk
  have e : (strI (lo + (k : Int)) == s) = true := he
  have e' : strI (lo + (k : Int)) = s := by simpa using e
  refine ⟨(lo + (k : Int)).toNat, by omega, by omega, by omega, ?_⟩
  rw [← e']
  congr 1
  omega
theorem dig_text : ∀ i : Nat, i ≤ 9 → PySem.intText? (strI i) = some (i : Int) ∧ dval (strI i) = i ∧ (strI i).length = 1 := by
  have h : ∀ i : Fin 10, PySem.intText? (strI (i.val : Int)) = some (i.val : Int) ∧ dval (strI (i.val : Int)) = (i.val : Int) ∧ (strI (i.val : Int)).length = 1 := by decide +kernel
  exact fun i hi => h ⟨i, by omega⟩
def ofS : Str := "of"
def readClass (ws : List Str) : PyData := match ws with
  | [a, o, b] => if o == ofS then (match readDigit b 1 3 with
    | .int d => (match readDigit a 0 (d - 1) with
      | .int e => .tuple [.int e, .int d]
      | _ => .none)
    | _ => .none) else .none
  | _ => .none
def readWay (ws : List Str) : PyData := match ws with
  | [a, b] => if inD (.str a) [.str "left", .str "right"] then (match readDigit b 1 4 with
    | .int n => if a == "right" then .int n else .int (-n)
    | _ => .none) else .none
  | _ => .none
def putClause (deed : Str) (place more : PyData) : PyData := match place with
  | .tuple [e, d] => if isNone more then .none else .tuple [.str deed, e, d, more]
  | _ => .none
end M
/-! M2: clauses, rounds, plans, as plain functions. -/
namespace M
open PySem J L2
variable [KC]
def cutL {α : Type} (xs : List α) (lo hi : Option Int) : List α := (xs.drop (HT.sIx xs.length 0 lo)).take (HT.sIx xs.length xs.length hi - HT.sIx xs.length 0 lo)
theorem cutD_map {α : Type} (f : α → PyData) (xs : List α) (lo hi : Option Int) : cutD (xs.map f) lo hi = (cutL xs lo hi).map f := by
  unfold cutD cutL
  rw [List.length_map, ← List.map_drop, ← List.map_take]
/-! ### parts of a split text -/
theorem spl_ne (S : List Nat) : ∀ (k : Nat) (acc l : List Nat), TL.spl S k acc l ≠ []
  | k, acc, [] => by rw [TL.spl_nil]; simp
  | 0, acc, c :: r => by
    unfold TL.spl
    split
    · simp
    · exact spl_ne S 0 _ r
  | k + 1, acc, c :: r => by
    unfold TL.spl
    exact spl_ne S k acc r
theorem spl_len (S : List Nat) : ∀ (k : Nat) (acc l : List Nat), ∀ p ∈ TL.spl S k acc l, p.length ≤ acc.length + l.length
  | k, acc, [] => by
    intro p hp
    rw [TL.spl_nil] at hp
    simp at hp
    simp [hp]
  | 0, acc, c :: r => by
    intro p hp
    unfold TL.spl at hp
    split at hp
    · rcases List.mem_cons.mp hp with rfl | hp
      · simp
      · have := spl_len S _ [] r p hp
        simp at this ⊢
        omega
    · have := spl_len S 0 _ r p hp
      simp at this ⊢
      omega
  | k + 1, acc, c :: r => by
    intro p hp
    unfold TL.spl at hp
    have := spl_len S k acc r p hp
    simp
    omega
theorem spl_mem (S : List Nat) : ∀ (k : Nat) (acc l : List Nat), ∀ p ∈ TL.spl S k acc l, ∀ c ∈ p, c ∈ acc ∨ c ∈ l
  | k, acc, [] => by
    intro p hp c hc
    rw [TL.spl_nil] at hp
    simp at hp
    subst hp
    exact .inl hc
  | 0, acc, d :: r => by
    intro p hp c hc
    unfold TL.spl at hp
    split at hp
    · rcases List.mem_cons.mp hp with rfl | hp
      · exact .inl hc
      · rcases spl_mem S _ [] r p hp c hc with h | h
        · simp at h
        · exact .inr (List.mem_cons_of_mem _ h)
    · rcases spl_mem S 0 _ r p hp c hc with h | h
      · rcases List.mem_append.mp h with h | h
        · exact .inl h
        · exact .inr (by simp at h; simp [h])
      · exact .inr (List.mem_cons_of_mem _ h)
  | k + 1, acc, d :: r => by
    intro p hp c hc
    unfold TL.spl at hp
    rcases spl_mem S k acc r p hp c hc with h | h
    · exact .inl h
    · exact .inr (List.mem_cons_of_mem _ h)
theorem S_of_tl (s : Str) : SX.S (TL.tl s) = s := TL.mk_tl s
theorem split_list (s t : Str) (h1 : TL.tl t ≠ []) (h2 : (TL.tl t).all (· < 256) = true) : Txt.split s t = (TL.spl (TL.tl t) 0 [] (TL.tl s)).map SX.S := by
  have := SX.split_S (a := TL.tl s) (b := TL.tl t) h1 h2
  rwa [S_of_tl, S_of_tl] at this
theorem split_ne (s t : Str) (h1 : TL.tl t ≠ []) (h2 : (TL.tl t).all (· < 256) = true) : ∃ p ps, Txt.split s t = p :: ps := by
  rw [split_list s t h1 h2]
  cases q : TL.spl (TL.tl t) 0 [] (TL.tl s) with
  | nil => exact absurd q (spl_ne _ _ _ _)
  | cons p ps => exact ⟨_, _, rfl⟩
theorem split_len (s t : Str) (h1 : TL.tl t ≠ []) (h2 : (TL.tl t).all (· < 256) = true) : ∀ p ∈ Txt.split s t, p.length ≤ s.length := by
  intro p hp
  rw [split_list s t h1 h2] at hp
  obtain ⟨q, hq, rfl⟩ := List.mem_map.mp hp
  have := spl_len _ _ _ _ q hq
  rw [TL.len_tl s]
  simpa [TL.len_tl] using this
/-! ### clauses -/
def readClause (s : Str) : PyData := match Txt.split s " " with
  | [] => .none
  | deed :: ws =>
    if inD (.str deed) [.str "join", .str "take"] then putClause deed (readClass (cutL (deed :: ws) (some 1) (some 4))) (readWay (cutL (deed :: ws) (some 4) none))
    else if deed == "clear" then putClause deed (readClass (cutL (deed :: ws) (some 1) none)) (.int 0)
    else if deed == "call" then (match deed :: ws with
      | [a, n, o, x, y, z] => if nameOk n && o == "on" then putClause deed (readClass (cutL [a, n, o, x, y, z] (some 3) none)) (.str n) else .none
      | _ => .none)
    else .none
/-- a clause as it is read -/
structure WfC (c : PyData) : Prop where
  ex : ∃ (deed : Str) (e d : Int) (more : PyData), c = .tuple [.str deed, .int e, .int d, more] ∧ 0 ≤ e ∧ e < d ∧ d ≤ 3 ∧ PyData.strOk deed = true ∧ ((∃ i, more = .int i) ∨ ∃ s, more = .str s ∧ PyData.strOk s = true)
def isCall : PyData → Bool
  | .tuple (.str d :: _) => d == "call"
  | _ => false
def hit (e d e2 d2 : Int) : PyData → Bool
  | .int k => (k % d == e) && (k % d2 == e2)
  | _ => false
def share : PyData → PyData → Bool
  | .tuple [_, .int e, .int d, _], .tuple [_, .int e2, .int d2, _] => (rngD 0 (d * d2).toNat).any (hit e d e2 d2)
  | _, _ => false
def ahead (cs : List PyData) : PyData → List PyData
  | .tuple [.int i, _] => cutD cs none (some i)
  | _ => []
def shareAt : PyData → PyData → Bool
  | .tuple [_, c], o => share c o
  | _, _ => false
def fit (cs : List PyData) : Bool :=
  if (cs.map isCall).any id && !((cs.map isCall).all id) then false else !(((enD 0 cs).flatMap fun d => (ahead cs d).map (shareAt d)).any id)
def readRound : PyData → PyData
  | .str s => let cs := (Txt.split s "; ").map readClause
    if cs.length > 3 then .none else if cs.any isNone then .none else if fit cs then .tuple cs else .none
  | _ => .none
end M
/-! M3: what a clause that is read looks like. -/
namespace M
open PySem J L2
variable [KC]
theorem readDigit_cases (s : Str) (lo hi : Int) (h0 : 0 ≤ lo) (h9 : hi ≤ 9) : readDigit s lo hi = .none ∨ ∃ i : Int, lo ≤ i ∧ i ≤ hi ∧ readDigit s lo hi = .int i := by
  unfold readDigit
  cases hk : inD (.str s) (digList lo hi) with
  | false => exact .inl (if_neg (by simp))
  | true =>
    obtain ⟨i, hi9, h1, h2, rfl⟩ := dig_in h0 h9 hk
    obtain ⟨e1, e2, e3⟩ := dig_text i hi9
    exact .inr ⟨i, h1, h2, by rw [if_pos rfl, e2]⟩
theorem readClass_cases (ws : List Str) : readClass ws = .none ∨ ∃ e d : Int, 0 ≤ e ∧ e < d ∧ d ≤ 3 ∧ readClass ws = .tuple [.int e, .int d] := by
  match ws with
  | [] => exact .inl rfl
  | [_] => exact .inl rfl
  | [_, _] => exact .inl rfl
  | _ :: _ :: _ :: _ :: _ => exact .inl rfl
  | [a, o, b] =>
    show (if o == ofS then _ else _) = _ ∨ _
    unfold readClass
    dsimp only
    by_cases ho : (o == ofS) = true
    · rw [if_pos ho]
      rcases readDigit_cases b 1 3 (by decide) (by decide) with q | ⟨d, d1, d3, q⟩
      · rw [q]; exact .inl rfl
      · rw [q]
        rcases readDigit_cases a 0 (d - 1) (by decide) (by omega) with q2 | ⟨x, x1, x3, q2⟩
        · dsimp only
          rw [q2]; exact .inl rfl
        · dsimp only
          rw [q2]
          exact .inr ⟨x, d, x1, by omega, d3, rfl⟩
    · rw [if_neg ho]
      exact .inl rfl
theorem readWay_cases (ws : List Str) : readWay ws = .none ∨ ∃ i : Int, readWay ws = .int i := by
  match ws with
  | [] => exact .inl rfl
  | [_] => exact .inl rfl
  | _ :: _ :: _ :: _ => exact .inl rfl
  | [a, b] =>
    unfold readWay
    dsimp only
    by_cases ho : inD (.str a) [.str "left", .str "right"] = true
    · rw [if_pos ho]
      rcases readDigit_cases b 1 4 (by decide) (by decide) with q | ⟨d, d1, d3, q⟩
      · rw [q]; exact .inl rfl
      · rw [q]
        dsimp only
        by_cases hr : (a == ("right" : Str)) = true
        · rw [if_pos hr]; exact .inr ⟨_, rfl⟩
        · rw [if_neg hr]; exact .inr ⟨_, rfl⟩
    · rw [if_neg ho]
      exact .inl rfl
theorem sign_ok {c : Nat} (h : signOk c = true) : c < 256 := by
  have h1 : c ∈ (letters ++ digits).cps.toList := of_decide_eq_true h
  have h2 : ∀ c ∈ (letters ++ digits).cps.toList, c < 256 := by decide +kernel
  exact h2 c h1
theorem name_signs {s : Str} (h : nameOk s = true) : 1 ≤ s.length ∧ s.length ≤ 8 ∧ ∀ c ∈ s.cps.toList, signOk c = true := by
  unfold nameOk at h
  rw [Bool.and_eq_true, Bool.and_eq_true, decide_eq_true_eq, decide_eq_true_eq] at h
  refine ⟨by omega, by omega, ?_⟩
  cases q : s.cps.toList with
  | nil => intro c hc; cases hc
  | cons c cs =>
    rw [q] at h
    have h2 := h.2
    dsimp only at h2
    rw [Bool.and_eq_true] at h2
    exact fun x hx => List.all_eq_true.mp h2.2 x hx
theorem name_ok {s : Str} (h : nameOk s = true) : PyData.strOk s = true := by
  unfold PyData.strOk
  rw [← Array.all_toList, List.all_eq_true]
  intro c hc
  have := sign_ok ((name_signs h).2.2 c hc)
  exact decide_eq_true (by omega)
theorem put_wf {deed : Str} {pl mo : PyData} (hd : PyData.strOk deed = true) (hp : pl = .none ∨ ∃ e d : Int, 0 ≤ e ∧ e < d ∧ d ≤ 3 ∧ pl = .tuple [.int e, .int d]) (hm : mo = .none ∨ (∃ i, mo = .int i) ∨ ∃ s, mo = .str s ∧ PyData.strOk s = true) :
    putClause deed pl mo = .none ∨ WfC (putClause deed pl mo) := by
  rcases hp with rfl | ⟨e, d, h1, h2, h3, rfl⟩
  · exact .inl rfl
  · rcases hm with rfl | ⟨i, rfl⟩ | ⟨s, rfl, hs⟩
    · exact .inl rfl
    · exact .inr ⟨deed, e, d, _, rfl, h1, h2, h3, hd, .inl ⟨i, rfl⟩⟩
    · exact .inr ⟨deed, e, d, _, rfl, h1, h2, h3, hd, .inr ⟨s, rfl, hs⟩⟩
theorem inS2 {s a b : Str} (h : inD (.str s) [.str a, .str b] = true) : s = a ∨ s = b := by
  have h' : ((a == s) || ((b == s) || false)) = true := h
  rw [Bool.or_eq_true, Bool.or_false, beq_iff_eq, beq_iff_eq] at h'
  exact h'.imp Eq.symm Eq.symm
theorem readClause_cases (s : Str) : readClause s = .none ∨ WfC (readClause s) := by
  unfold readClause
  cases Txt.split s " " with
  | nil => exact .inl rfl
  | cons deed ws =>
    dsimp only
    by_cases h : inD (.str deed) [.str "join", .str "take"] = true
    · rw [if_pos h]
      have hd : PyData.strOk deed = true := by rcases inS2 h with rfl | rfl <;> decide +kernel
      exact put_wf hd (readClass_cases _) ((readWay_cases _).imp id .inl)
    · rw [if_neg h]
      by_cases h : (deed == ("clear" : Str)) = true
      · rw [if_pos h]
        have hd : PyData.strOk deed = true := by
          rw [eq_of_beq h]
          decide +kernel
        exact put_wf hd (readClass_cases _) (.inr (.inl ⟨0, rfl⟩))
      · rw [if_neg h]
        by_cases h : (deed == ("call" : Str)) = true
        · rw [if_pos h]
          have hd : PyData.strOk deed = true := by
            rw [eq_of_beq h]
            decide +kernel
          match ws with
          | [] => exact .inl rfl
          | [_] => exact .inl rfl
          | [_, _] => exact .inl rfl
          | [_, _, _] => exact .inl rfl
          | [_, _, _, _] => exact .inl rfl
          | _ :: _ :: _ :: _ :: _ :: _ :: _ => exact .inl rfl
          | [n, o, x, y, z] =>
            dsimp only
            by_cases h2 : (nameOk n && o == ("on" : Str)) = true
            · rw [if_pos h2]
              rw [Bool.and_eq_true] at h2
              exact put_wf hd (readClass_cases _) (.inr (.inr ⟨_, rfl, name_ok h2.1⟩))
            · rw [if_neg h2]
              exact .inl rfl
        · rw [if_neg h]
          exact .inl rfl
theorem wf_canLay {c : PyData} (h : WfC c) : PyData.canLay0 c = true ∧ PyData.depth c ≤ 2 := by
  obtain ⟨deed, e, d, more, rfl, _, _, _, hd, hm⟩ := h
  rcases hm with ⟨i, rfl⟩ | ⟨s, rfl, hs⟩
  · exact ⟨by simp [PyData.canLay0, PyData.canLayAll0, hd], by simp [PyData.depth, PyData.depthAll]⟩
  · exact ⟨by simp [PyData.canLay0, PyData.canLayAll0, hd, hs], by simp [PyData.depth, PyData.depthAll]⟩
theorem cls_lay : ∀ {cs : List PyData}, (∀ c ∈ cs, c = .none ∨ WfC c) → PyData.canLayAll0 cs = true ∧ PyData.depthAll cs ≤ 2
  | [], _ => ⟨rfl, by simp [PyData.depthAll]⟩
  | c :: cs, h => by
    obtain ⟨h1, h2⟩ := cls_lay (cs := cs) fun x hx => h x (List.mem_cons_of_mem _ hx)
    have h3 : PyData.canLay0 c = true ∧ PyData.depth c ≤ 2 := by
      rcases h c List.mem_cons_self with rfl | hw
      · exact ⟨rfl, by simp [PyData.depth]⟩
      · exact wf_canLay hw
    exact ⟨by simp [PyData.canLayAll0, h1, h3.1], by simp only [PyData.depthAll]; omega⟩
theorem cls_shaped {cs : List PyData} (h : ∀ c ∈ cs, c = .none ∨ WfC c) : SeqAt.shaped (.list cs) = true := by
  obtain ⟨h1, h2⟩ := cls_lay h
  unfold SeqAt.shaped
  rw [Bool.and_eq_true]
  refine ⟨by simpa [PyData.canLay0] using h1, decide_eq_true ?_⟩
  simp only [PyData.depth]
  omega
theorem eqv_none {c : PyData} (h : c = .none ∨ WfC c) : PyData.eqv c .none = isNone c := by
  rcases h with rfl | ⟨deed, e, d, more, rfl, _⟩
  · rfl
  · rfl
theorem any_none {cs : List PyData} (h : ∀ c ∈ cs, c = .none ∨ WfC c) : (cs.any fun z => PyData.eqv z .none) = cs.any isNone := by
  induction cs with
  | nil => rfl
  | cons c cs ih =>
    rw [List.any_cons, List.any_cons, eqv_none (h c List.mem_cons_self), ih fun x hx => h x (List.mem_cons_of_mem _ hx)]
end M
/-! R: where the defs stand in the text of k63_hazards_judged. -/
namespace J
open PySem PySem.Spec L2
def top (i : Nat) : Stmt := PySem.Challenge.pw_joinrounds_k63_hazards_judged.main.body.getD i (.Pass ⟨0, 0, 0, 0⟩)
abbrev sInvalidTextInit : Stmt := inClass (top 2) 0
abbrev sInvalidCountInit : Stmt := inClass (top 3) 0
abbrev sInvalidPlaceInit : Stmt := inClass (top 4) 0
abbrev sNotABookInit : Stmt := inClass (top 5) 0
abbrev sInvalidPlansInit : Stmt := inClass (top 6) 0
abbrev sInvalidPiecesInit : Stmt := inClass (top 7) 0
abbrev sUnknownPlanInit : Stmt := inClass (top 9) 0
abbrev sTooLongInit : Stmt := inClass (top 11) 0
abbrev sIsInteger : Stmt := top 28
abbrev sIsCount : Stmt := top 29
abbrev sIsIndex : Stmt := top 30
abbrev sIsName : Stmt := top 31
abbrev sIsPiece : Stmt := top 32
abbrev sIsGoal : Stmt := top 33
abbrev sLastOf : Stmt := top 34
abbrev sGoalSpan : Stmt := top 35
abbrev sReadDigit : Stmt := top 36
abbrev sReadClass : Stmt := top 37
abbrev sReadWay : Stmt := top 38
abbrev sPutClause : Stmt := top 39
abbrev sReadClause : Stmt := top 40
abbrev sSharePlace : Stmt := top 41
abbrev sFitTogether : Stmt := top 42
abbrev sReadRound : Stmt := top 43
abbrev sCanStand : Stmt := top 44
abbrev sAreRounds : Stmt := top 46
abbrev sIsPlan : Stmt := top 47
abbrev sCheckPlans : Stmt := top 48
abbrev sPlanText : Stmt := top 49
abbrev sReadPlan : Stmt := top 50
abbrev sReadPlans : Stmt := top 51
abbrev sInit : Stmt := inClass (top 52) 0
abbrev sRead : Stmt := inClass (top 52) 1
abbrev sPlans : Stmt := inClass (top 52) 2
abbrev sNames : Stmt := inClass (top 52) 3
abbrev sFindPlan : Stmt := inClass (top 52) 4
abbrev sPlan : Stmt := inClass (top 52) 5
abbrev sChanged : Stmt := inClass (top 52) 6
abbrev sEq : Stmt := inClass (top 52) 7
abbrev sStr : Stmt := inClass (top 52) 8
abbrev sRepr : Stmt := inClass (top 52) 9
abbrev sCheckBook : Stmt := top 53
abbrev sPlanOf : Stmt := top 54
abbrev sReadBook : Stmt := top 55
abbrev sIsPlace : Stmt := top 57
abbrev sDonePlaces : Stmt := top 58
abbrev sReadPlaces : Stmt := top 59
abbrev sHazardPlaces : Stmt := top 60
abbrev sJoinRuns : Stmt := top 63
abbrev sJoinAll : Stmt := top 64
abbrev sJoinLast : Stmt := top 65
abbrev sGoalWords : Stmt := top 66
abbrev sFirstWords : Stmt := top 67
abbrev sNextWord : Stmt := top 68
abbrev sChangedWords : Stmt := top 69
abbrev sNextWords : Stmt := top 70
abbrev sToldClause : Stmt := top 71
abbrev sToldRounds : Stmt := top 72
abbrev sWrongPlace : Stmt := top 73
abbrev sLevel : Stmt := top 74
abbrev sHolds : Stmt := top 75
abbrev sCheckPieces : Stmt := top 77
abbrev sGoalTexts : Stmt := top 78
abbrev sNextText : Stmt := top 79
abbrev sCheckLengths : Stmt := top 80
abbrev sNextTexts : Stmt := top 81
abbrev sLedTexts : Stmt := top 82
abbrev sRowInit : Stmt := inClass (top 83) 0
abbrev sRowBook : Stmt := inClass (top 83) 1
abbrev sRowName : Stmt := inClass (top 83) 2
abbrev sRowWords : Stmt := inClass (top 83) 3
abbrev sRowDone : Stmt := inClass (top 83) 4
abbrev sRowIsOver : Stmt := inClass (top 83) 5
abbrev sRowDue : Stmt := inClass (top 83) 6
abbrev sRowAfter : Stmt := inClass (top 83) 7
abbrev sRowLast : Stmt := inClass (top 83) 8
abbrev sRowEq : Stmt := inClass (top 83) 9
abbrev sRowRepr : Stmt := inClass (top 83) 10
abbrev sLeastWrong : Stmt := top 84
abbrev sIsSame : Stmt := top 86
abbrev sAcceptsHolds : Stmt := top 87
abbrev sAcceptsWrong : Stmt := top 88
abbrev sAcceptsHazard : Stmt := top 89
abbrev sAcceptsDiffers : Stmt := top 90
abbrev sAccepts : Stmt := top 93
abbrev sLCup : Stmt := top 95
abbrev sLSip : Stmt := top 96
abbrev sLLabels : Stmt := top 97
abbrev sLClause : Stmt := top 98
abbrev sLRound : Stmt := top 99
abbrev sLGoal : Stmt := top 100
abbrev sLPlan : Stmt := top 101
abbrev sLGood : Stmt := top 102
abbrev sLSketch : Stmt := top 103
abbrev sLClauseText : Stmt := top 104
abbrev sLGoalText : Stmt := top 105
abbrev sLParts : Stmt := top 106
abbrev sLVol : Stmt := top 107
abbrev sLIsHazard : Stmt := top 108
abbrev sLRight : Stmt := top 109
abbrev sLaw : Stmt := top 110
end J
/-! P1: joinrounds.forms. -/
namespace J
open PySem PySem.Spec
open PyProof.Rows L2
variable [KC]
structure Gf (mg : Str → Option Value) : Prop where
  bt : Bt mg
  longest : ∃ t, mg "LONGEST_NAME" = some (.int 8 t)
  letters : ∃ t, mg "LETTERS" = some (.str M.letters t)
  digits : ∃ t, mg "DIGITS" = some (.str M.digits t)
  mlast : ∃ t, mg "MOST_LAST" = some (.int 4 t)
  mfar : ∃ t, mg "MOST_FAR" = some (.int 4 t)
  mclasses : ∃ t, mg "MOST_CLASSES" = some (.int 3 t)
  mclauses : ∃ t, mg "MOST_CLAUSES" = some (.int 3 t)
  mrounds : ∃ t, mg "MOST_ROUNDS" = some (.int 5 t)
  mplans : ∃ t, mg "MOST_PLANS" = some (.int 4 t)
  mbase : ∃ t, mg "MOST_BASE" = some (.int 4 t)
section
variable {w : World} {P : Program} {K : PySem.W.Frag} {base : Heap} {mg : Str → Option Value}
theorem scIsInteger : FnScope ["value"] ["value"] (defScope sIsInteger) := ⟨rfl, rfl, rfl, by decide +kernel, rfl, by decide +kernel, by decide +kernel⟩
theorem cIsInteger (T : Gf mg) (D : Df K mg "is_integer" sIsInteger) : Cal P w K mg base "is_integer" 1 ["value"] (fn1 (fun d => isObj d = false) fun d => .bool (M.isInteger d)) := by
  refine D.cal scIsInteger (fun _ _ _ _ _ _ us hl => match us, hl with | [_], _ => rfl) (by decide) (fun rs μ r μ' h => by obtain ⟨d, _, _, _, rfl⟩ := h; rfl) fun f cdv A outer s H E hr rs μ r μ' hC => ?_
  obtain ⟨d, rfl, hob, rfl, rfl⟩ := hC
  refine ST.retP (EV.andD (isI T.bt (nm 0) (kit_int d) (by decide +kernel) T.bt.int) fun _ => EV.one (EV.not (isI T.bt (nm 0) (kit_bool d) (by decide +kernel) T.bt.bool))) ?_ (by simp)
  cases d <;> rfl

theorem scIsName : FnScope ["value", "sign"] ["value"] (defScope sIsName) := ⟨rfl, rfl, rfl, by decide +kernel, rfl, by decide +kernel, by decide +kernel⟩
theorem cIsName (T : Gf mg) (D : Df K mg "is_name" sIsName) : Cal P w K mg base "is_name" 1 ["value"] (fn1 (fun d => isObj d = false ∧ ∀ s, d = .str s → s.length ≤ 1000000) fun d => .bool (M.isName d)) := by
  refine D.cal scIsName (fun _ _ _ _ _ _ us hl => match us, hl with | [_], _ => rfl) (by decide) (fun rs μ r μ' h => by obtain ⟨d, _, _, _, rfl⟩ := h; rfl) fun f cdv A outer s H E hr rs μ r μ' hC => ?_
  obtain ⟨d, rfl, ⟨hob, hs⟩, rfl, rfl⟩ := hC
  cases hd : isStrL d with
  | false =>
    refine ST.ifYes (WV.tv (WV.orT (TV.not (TV.val (isI T.bt (nm 0) (kit_str d) (by decide +kernel) T.bt.str))) (by rw [hd]; rfl))) rfl ?_
    refine ST.retP EV.bl ?_ (by simp)
    cases d <;> first | rfl | cases hd
  | true =>
    obtain ⟨s, rfl⟩ : ∃ s, d = .str s := by cases d <;> first | exact ⟨_, rfl⟩ | cases hd
    have hl := sz (hs s rfl)
    refine ST.ifR (WV.tv (WV.orF (TV.not (TV.val (isI T.bt (nm 0) (kit_str _) (by decide +kernel) T.bt.str))) (WV.or1 (TV.not (tChainLe op_le op_le EV.int (bLenS T.bt (nm 0) hl) (gI T.longest)))))) (fun hk => ?_) (fun hk => ?_)
    · refine ST.retP EV.bl ?_ (by simp)
      have : M.nameOk s = false := by
        unfold M.nameOk
        simp only [Bool.not_eq_true', ] at hk
        rw [hk, Bool.false_and]
      exact congrArg (fun b => Bb b) this.symm
    · simp only [Bool.not_eq_false', Bool.and_eq_true, decide_eq_true_eq] at hk
      obtain ⟨c, cs, hc⟩ : ∃ c cs, s.cps.toList = c :: cs := by
        cases q : s.cps.toList with
        | nil =>
          have : s.length = 0 := by show s.cps.size = 0; rw [← Array.length_toList, q]; rfl
          omega
        | cons c cs => exact ⟨c, cs, rfl⟩
      have h0 : atI s.cps.toList 0 = some c := at_nat (i := 0) (by rw [hc]; rfl)
      have hsz : s.length = s.cps.size := rfl
      refine ST.retP (EV.andD (cInSign (ixS (nm 0) EV.int hl h0) (gS T.letters)) fun _ => EV.one (bAll (bs := s.cps.toList.map M.signOk) T.bt rfl (EV.eq (LCV.evf (own := [("sign", 1)]) (LCV.map (sgn1 M.signOk) (IV.str (nm 0)) (fun d hd => ?_) (by simp [strD]; omega)) rfl scIsName.nd (blkOk_by (N := ["value", "sign"]) (sc := defScope sIsName) (by decide +kernel))).ev ?_))) ?_ (by simp)
      · obtain ⟨c, _, rfl⟩ := List.mem_map.mp hd
        exact ⟨_, fun _ _ _ _ _ => GV.name (i := 1) scIsName.nd rfl (Or.inl rfl) (by simp), fun _ _ _ _ _ => cInSign (nm 1) (oAddS (gS T.letters) (gS T.digits) (by decide))⟩
      · exact congrArg Ls (sgn1_map _ _)
      · have : M.nameOk s = (decide (c ∈ M.letters.cps.toList) && (s.cps.toList.map M.signOk).all id) := by
          unfold M.nameOk
          rw [hc]
          simp [hk.1, hk.2, List.all_map]
        exact congrArg (fun b => Bb b) this.symm

theorem scIsGoal : FnScope ["value", "lasts", "many"] ["value"] (defScope sIsGoal) := ⟨rfl, rfl, rfl, by decide +kernel, rfl, by decide +kernel, by decide +kernel⟩
def lastD : PyData → PyData
  | .int i => .str (catS Str.empty ["last ", M.strI i])
  | d => d
theorem lasts_eq : (rngD 1 4).map lastD = M.lasts := by
  show [lastD (.int 1), lastD (.int 2), lastD (.int 3), lastD (.int 4)] = _
  have h : ∀ i : _root_.Fin 5, catS Str.empty ["last ", M.strI (i.val : Int)] = ([("last 0" : Str), "last 1", "last 2", "last 3", "last 4"][i.val]) := by decide +kernel
  have h1 := h 1
  have h2 := h 2
  have h3 := h 3
  have h4 := h 4
  show [PyData.str _, PyData.str _, PyData.str _, PyData.str _] = _
  exact congr (congrArg List.cons (congrArg PyData.str h1)) (congr (congrArg List.cons (congrArg PyData.str h2)) (congr (congrArg List.cons (congrArg PyData.str h3)) (congr (congrArg List.cons (congrArg PyData.str h4)) rfl)))
theorem last_fit (i : Int) (h : i = 1 ∨ i = 2 ∨ i = 3 ∨ i = 4) : fitS Str.empty ["last ", M.strI i] := by
  rcases h with rfl | rfl | rfl | rfl <;> exact ⟨by decide +kernel, by decide +kernel, trivial⟩
theorem rng_mem {lo : Int} {n : Nat} {d : PyData} (h : d ∈ rngD lo n) : ∃ k : Nat, k < n ∧ d = .int (lo + k) := by
  obtain ⟨k, hk, rfl⟩ := List.mem_map.mp h
  exact ⟨k, List.mem_range.mp hk, rfl⟩
theorem cIsGoal (T : Gf mg) (D : Df K mg "is_goal" sIsGoal) : Cal P w K mg base "is_goal" 1 ["value"] (fn1 (fun d => isObj d = false) fun d => .bool (M.isGoal d)) := by
  refine D.cal scIsGoal (fun _ _ _ _ _ _ us hl => match us, hl with | [_], _ => rfl) (by decide) (fun rs μ r μ' h => by obtain ⟨d, _, _, _, rfl⟩ := h; rfl) fun f cdv A outer s H E hr rs μ r μ' hC => ?_
  obtain ⟨d, rfl, hob, rfl, rfl⟩ := hC
  refine ST.lc (i := 1) (own := [("many", 2)]) (LCV.map lastD (IV.rng2 EV.int (oAdd (gI T.mlast) EV.int) (by decide) T.bt.range) (fun d hd => ?_) (by decide)) rfl scIsGoal.nd rfl rfl (blkOk_by (N := ["value", "lasts", "many"]) (sc := defScope sIsGoal) (by decide +kernel)) ?_ (sw_true rfl rfl rfl (by decide +kernel))
  · obtain ⟨k, hk, rfl⟩ := rng_mem hd
    have hk4 : k < 4 := hk
    exact ⟨_, fun _ _ _ _ _ => GV.name (i := 2) scIsGoal.nd rfl (Or.inl rfl) (by simp), fun _ _ _ _ _ => EV.joined (JV.cons EV.str (JV.cons (EV.fmtI (nm 2) (log_small (by omega))) JV.nil)) (last_fit _ (by omega))⟩
  · have e : (rngD 1 ((4 : Int) + 1 - 1).toNat).map lastD = M.lasts := lasts_eq
    rw [e]
    cases hd : isStrL d with
    | false =>
      refine ST.retP (EV.andF (isI T.bt (nm 0) (kit_str d) (by decide +kernel) T.bt.str) hd) ?_ (by simp)
      cases d <;> first | rfl | cases hd
    | true =>
      obtain ⟨s, rfl⟩ : ∃ s, d = .str s := by cases d <;> first | exact ⟨_, rfl⟩ | cases hd
      exact ST.retP (EV.andT (isI T.bt (nm 0) (kit_str _) (by decide +kernel) T.bt.str) (EV.one (cInL (nm 0) (oCat (EV.lst (ds := [.str "all", .str "before"]) (AV.cons EV.str (AV.cons EV.str AV.nil))) (nm 1) (by decide)) rfl rfl))) rfl (by simp)
theorem scReadDigit : FnScope ["word", "low", "high", "number"] ["word", "low", "high"] (defScope sReadDigit) := ⟨rfl, rfl, rfl, by decide +kernel, rfl, by decide +kernel, by decide +kernel⟩
def digF : PyData → PyData
  | .int i => .str (M.strI i)
  | d => d
theorem digList_eq (lo hi : Int) : (rngD lo (hi + 1 - lo).toNat).map digF = M.digList lo hi := by
  unfold M.digList
  refine List.map_congr_left fun d hd => ?_
  obtain ⟨k, _, rfl⟩ := rng_mem hd
  rfl
theorem digList_flat (lo hi : Int) : (M.digList lo hi).all flatD = true := by
  rw [← digList_eq, List.all_map, List.all_eq_true]
  intro d hd
  obtain ⟨k, _, rfl⟩ := rng_mem hd
  rfl
def cnReadDigit : Con := fun rs μ r μ' => ∃ s lo hi, rs = [Ss s, Ii lo, Ii hi] ∧ (0 ≤ lo ∧ hi ≤ 9 ∧ lo ≤ 9 ∧ -5 ≤ hi) ∧ r = .dat (M.readDigit s lo hi) ∧ μ' = μ
theorem cReadDigit (T : Gf mg) (D : Df K mg "read_digit" sReadDigit) : Cal P w K mg base "read_digit" 1 ["word", "low", "high"] cnReadDigit := by
  refine D.cal scReadDigit (fun _ _ _ _ _ _ us hl => match us, hl with | [_, _, _], _ => rfl) (by decide) (fun rs μ r μ' h => by obtain ⟨_, _, _, _, _, _, rfl⟩ := h; rfl) fun f cdv A outer s0 H E hr rs μ r μ' hC => ?_
  obtain ⟨s, lo, hi, rfl, ⟨h0, h9, h1, h2⟩, rfl, rfl⟩ := hC
  refine ST.iff (tInL (nm 0) (EV.eq (LCV.evf (own := [("number", 3)]) (LCV.map digF (IV.rng2 (nm 1) (oAdd (nm 2) EV.int) (by omega) T.bt.range) (fun d hd => ?_) (by rw [rngD_len]; omega)) rfl scReadDigit.nd (blkOk_by (N := ["word", "low", "high", "number"]) (sc := defScope sReadDigit) (by decide +kernel))).ev (congrArg Ls (digList_eq lo hi))) rfl (digList_flat lo hi)) (fun hk => ?_) (fun hk => ?_)
  · obtain ⟨k, hk, rfl⟩ := rng_mem hd
    exact ⟨_, fun _ _ _ _ _ => GV.name (i := 3) scReadDigit.nd rfl (Or.inl rfl) (by simp), fun _ _ _ _ _ => bStr T.bt (nm 3) (log_small (by omega))⟩
  · obtain ⟨i, hi9, _, _, rfl⟩ := M.dig_in h0 h9 hk
    obtain ⟨e1, e2, e3⟩ := M.dig_text i hi9
    refine ST.ret (bIntS T.bt (nm 0) e1 (by rw [e3]; decide)) ⟨?_, by simp⟩
    show Ii (i : Int) = .dat (M.readDigit _ _ _)
    unfold M.readDigit
    rw [if_pos hk, e2]
  · refine ST.nil (ST.retP EV.non ?_ (by simp))
    show Nn = .dat (M.readDigit _ _ _)
    unfold M.readDigit
    rw [if_neg (by rw [hk]; exact Bool.false_ne_true)]
theorem scReadClass : FnScope ["words", "divisor", "remainder"] ["words"] (defScope sReadClass) := ⟨rfl, rfl, rfl, by decide +kernel, rfl, by decide +kernel, by decide +kernel⟩
def cnReadClass : Con := fun rs μ r μ' => ∃ ws : List Str, rs = [Ls (ws.map .str)] ∧ True ∧ r = .dat (M.readClass ws) ∧ μ' = μ
open M (readDigit_cases)
theorem cReadClass (T : Gf mg) (C1 : Cal P w K mg base "read_digit" 1 ["word", "low", "high"] cnReadDigit) (D : Df K mg "read_class" sReadClass) : Cal P w K mg base "read_class" 2 ["words"] cnReadClass := by
  refine D.cal scReadClass (fun _ _ _ _ _ _ us hl => match us, hl with | [_], _ => rfl) (by decide) (fun rs μ r μ' h => by obtain ⟨_, _, _, _, rfl⟩ := h; rfl) fun f cdv A outer s0 H E hr rs μ r μ' hC => ?_
  obtain ⟨ws, rfl, _, rfl, rfl⟩ := hC
  by_cases h3 : ws.length = 3
  · obtain ⟨a, o, b, rfl⟩ : ∃ a o b, ws = [a, o, b] := by
      match ws, h3 with
      | [a, o, b], _ => exact ⟨a, o, b, rfl⟩
    refine ST.ifR (WV.tv (WV.orF (tNe (bLenL T.bt (nm 0)) EV.int) (WV.or1 (tNe (ixL (nm 0) EV.int (at_nat (i := 1) rfl)) EV.str)))) (fun hk => ?_) (fun hk => ?_)
    · refine ST.retP EV.non ?_ (by simp)
      have : (o == M.ofS) = false := by simpa [eqS, M.ofS] using hk
      show Nn = .dat (M.readClass [a, o, b])
      unfold M.readClass
      simp [this]
    · have ho : (o == M.ofS) = true := by simpa [eqS, M.ofS] using hk
      refine ST.set (i := 1) (EV.call C1 (by assumption) (AV.cons (ixL (nm 0) EV.int (at_nat (i := 2) rfl)) (AV.cons EV.int (AV.cons (gI T.mclasses) AV.nil))) ⟨b, 1, 3, rfl, by decide, rfl, rfl⟩) scReadClass.nd rfl (Or.inl rfl) ?_
      have hr : M.readClass [a, o, b] = (match M.readDigit b 1 3 with
        | .int d => (match M.readDigit a 0 (d - 1) with
          | .int e => .tuple [.int e, .int d]
          | _ => .none)
        | _ => .none) := by
        show (if (o == M.ofS) = true then _ else _) = _
        rw [if_pos ho]
        all_goals rfl
      rcases readDigit_cases b 1 3 (by decide) (by decide) with q | ⟨d, d1, d3, q⟩
      · rw [q] at hr
        rw [hr, q]
        exact ST.ifYes (tIsN (nm 1)) rfl (ST.retP EV.non rfl)
      · rw [q] at hr
        dsimp only at hr
        rw [hr, q]
        refine ST.ifNo (tIsN (nm 1)) rfl ?_
        refine ST.set (i := 2) (EV.call C1 (by assumption) (AV.cons (ixL (nm 0) EV.int (at_nat (i := 0) rfl)) (AV.cons EV.int (AV.cons (oSub (nm 1) EV.int) AV.nil))) ⟨a, 0, d - 1, rfl, by omega, rfl, rfl⟩) scReadClass.nd rfl (Or.inl rfl) ?_
        rcases readDigit_cases a 0 (d - 1) (by decide) (by omega) with q2 | ⟨x, x1, x3, q2⟩
        · rw [q2]
          exact ST.ifYes (tIsN (nm 2)) rfl (ST.retP EV.non rfl)
        · rw [q2]
          refine ST.ifNo (tIsN (nm 2)) rfl ?_
          exact ST.retP (EV.tup (ds := [.int x, .int d]) (AV.cons (nm 2) (AV.cons (nm 1) AV.nil))) rfl
  · refine ST.ifYes (WV.tv (WV.orT (tNe (bLenL T.bt (nm 0)) EV.int) (by simp [eqS]; omega))) rfl (ST.retP EV.non ?_ (by simp))
    show Nn = .dat (M.readClass ws)
    unfold M.readClass
    split
    · exact absurd rfl h3
    · rfl

theorem scReadWay : FnScope ["words", "far"] ["words"] (defScope sReadWay) := ⟨rfl, rfl, rfl, by decide +kernel, rfl, by decide +kernel, by decide +kernel⟩
def cnReadWay : Con := fun rs μ r μ' => ∃ ws : List Str, rs = [Ls (ws.map .str)] ∧ True ∧ r = .dat (M.readWay ws) ∧ μ' = μ
theorem cReadWay (T : Gf mg) (C1 : Cal P w K mg base "read_digit" 1 ["word", "low", "high"] cnReadDigit) (D : Df K mg "read_way" sReadWay) : Cal P w K mg base "read_way" 2 ["words"] cnReadWay := by
  refine D.cal scReadWay (fun _ _ _ _ _ _ us hl => match us, hl with | [_], _ => rfl) (by decide) (fun rs μ r μ' h => by obtain ⟨_, _, _, _, rfl⟩ := h; rfl) fun f cdv A outer s0 H E hr rs μ r μ' hC => ?_
  obtain ⟨ws, rfl, _, rfl, rfl⟩ := hC
  by_cases h2 : ws.length = 2
  · obtain ⟨a, b, rfl⟩ : ∃ a b, ws = [a, b] := by
      match ws, h2 with
      | [a, b], _ => exact ⟨a, b, rfl⟩
    refine ST.ifR (WV.tv (WV.orF (tNe (bLenL T.bt (nm 0)) EV.int) (WV.or1 (tNiT (ixL (nm 0) EV.int (at_nat (i := 0) rfl)) (EV.tup (ds := [.str "left", .str "right"]) (AV.cons EV.str (AV.cons EV.str AV.nil))) rfl rfl)))) (fun hk => ?_) (fun hk => ?_)
    · refine ST.retP EV.non ?_
      have : inD (.str a) [.str "left", .str "right"] = false := by simpa using hk
      show Nn = .dat (M.readWay [a, b])
      show _ = Ent.dat (if inD (.str a) [.str "left", .str "right"] = true then _ else _)
      rw [this]
      rfl
    · have ha : inD (.str a) [.str "left", .str "right"] = true := by simpa using hk
      have hw : M.readWay [a, b] = (match M.readDigit b 1 4 with
        | .int n => if a == "right" then .int n else .int (-n)
        | _ => .none) := by
        show (if inD (.str a) [.str "left", .str "right"] = true then _ else _) = _
        rw [if_pos ha]
        all_goals rfl
      refine ST.set (i := 1) (EV.call C1 hr (AV.cons (ixL (nm 0) EV.int (at_nat (i := 1) rfl)) (AV.cons EV.int (AV.cons (gI T.mfar) AV.nil))) ⟨b, 1, 4, rfl, by decide, rfl, rfl⟩) scReadWay.nd rfl (Or.inl rfl) ?_
      rcases readDigit_cases b 1 4 (by decide) (by decide) with q | ⟨d, d1, d3, q⟩
      · rw [q] at hw
        rw [hw, q]
        exact ST.ifYes (WV.tv (WV.orT (tIsN (nm 1)))) rfl (ST.retP (nm 1) rfl)
      · rw [q] at hw
        dsimp only at hw
        rw [hw, q]
        refine ST.ifR (WV.tv (WV.orF (tIsN (nm 1)) (WV.or1 (tEq (ixL (nm 0) EV.int (at_nat (i := 0) rfl)) EV.str)))) (fun hk => ?_) (fun hk => ?_)
        · have hk' : (a == "right") = true := hk
          rw [if_pos hk']
          exact ST.retP (nm 1) rfl
        · have hk' : (a == "right") = false := hk
          rw [if_neg (by rw [hk']; exact Bool.false_ne_true)]
          exact ST.retP (EV.neg (nm 1)) rfl
  · refine ST.ifYes (WV.tv (WV.orT (tNe (bLenL T.bt (nm 0)) EV.int) (by simp [eqS]; omega))) rfl (ST.retP EV.non ?_)
    show Nn = .dat (M.readWay ws)
    unfold M.readWay
    split
    · exact absurd rfl h2
    · rfl
theorem scPutClause : FnScope ["deed", "place", "more", "remainder", "divisor"] ["deed", "place", "more"] (defScope sPutClause) := ⟨rfl, rfl, rfl, by decide +kernel, rfl, by decide +kernel, by decide +kernel⟩
def cnPutClause : Con := fun rs μ r μ' => ∃ (s : Str) (pl mo : PyData), rs = [Ss s, .dat pl, .dat mo] ∧ (pl = .none ∨ ∃ e d, pl = .tuple [e, d]) ∧ r = .dat (M.putClause s pl mo) ∧ μ' = μ
theorem cPutClause (D : Df K mg "put_clause" sPutClause) : Cal P w K mg base "put_clause" 1 ["deed", "place", "more"] cnPutClause := by
  refine D.cal scPutClause (fun _ _ _ _ _ _ us hl => match us, hl with | [_, _, _], _ => rfl) (by decide) (fun rs μ r μ' h => by obtain ⟨_, _, _, _, _, _, rfl⟩ := h; rfl) fun f cdv A outer s0 H E hr rs μ r μ' hC => ?_
  obtain ⟨s, pl, mo, rfl, hp, rfl, rfl⟩ := hC
  rcases hp with rfl | ⟨e, d, rfl⟩
  · exact ST.ifYes (WV.tv (WV.orT (tIsN (nm 1)))) rfl (ST.retP EV.non rfl)
  · refine ST.ifR (WV.tv (WV.orF (tIsN (nm 1)) (WV.or1 (tIsN (nm 2))))) (fun hk => ?_) (fun hk => ?_)
    · refine ST.retP EV.non ?_
      show Nn = Ent.dat (if isNone mo = true then _ else _)
      rw [if_pos hk]
    · have hn : M.putClause s (.tuple [e, d]) mo = .tuple [.str s, e, d, mo] := by
        show (if isNone mo = true then _ else _) = _
        rw [hk]
        try rfl
      rw [hn]
      refine ST.asg (is := [3, 4]) (nm 1) (GV.tup (GsV.cons (GV.name (i := 3) scPutClause.nd rfl (Or.inl rfl) (by simp)) (GsV.cons (GV.name (i := 4) scPutClause.nd rfl (Or.inl rfl) (by simp)) GsV.nil))) ?_
      exact ST.retP (EV.tup (ds := [.str s, e, d, mo]) (AV.cons (nm 0) (AV.cons (nm 3) (AV.cons (nm 4) (AV.cons (nm 2) AV.nil))))) rfl
end
end J
/-! P1i: is_index. -/
namespace M
open PySem
def isIndex : PyData → Int → Bool
  | .int i, n => decide (0 ≤ i) && decide (i < n)
  | _, _ => false
end M
namespace J
open PySem PySem.Spec
open PyProof.Rows L2
variable [KC]
section
variable {w : World} {P : Program} {K : PySem.W.Frag} {base : Heap} {mg : Str → Option Value}
def cnIsIndex : Con := fun rs μ r μ' => ∃ (d : PyData) (n : Int), rs = [.dat d, Ii n] ∧ isObj d = false ∧ r = Bb (M.isIndex d n) ∧ μ' = μ
theorem scIsIndex : FnScope ["value", "many"] ["value", "many"] (defScope sIsIndex) := ⟨rfl, rfl, rfl, by decide +kernel, rfl, by decide +kernel, by decide +kernel⟩
theorem cIsIndex (T : Gf mg) (C1 : Cal P w K mg base "is_integer" 1 ["value"] (fn1 (fun d => isObj d = false) fun d => .bool (M.isInteger d))) (D : Df K mg "is_index" sIsIndex) : Cal P w K mg base "is_index" 2 ["value", "many"] cnIsIndex := by
  refine D.cal scIsIndex (fun _ _ _ _ _ _ us hl => match us, hl with | [_, _], _ => rfl) (by decide) (fun rs μ r μ' h => by obtain ⟨_, _, _, _, _, rfl⟩ := h; rfl) fun f cdv A outer s H E hr rs μ r μ' hC => ?_
  obtain ⟨d, n, rfl, hob, rfl, rfl⟩ := hC
  cases d with
  | int i => exact ST.retP (EV.andD (EV.call C1 (hr.mono (by decide)) (AV.cons (nm 0) AV.nil) ⟨.int i, rfl, rfl, rfl, rfl⟩) fun _ => EV.one (chainLe op_le op_lt EV.int (nm 0) (nm 1))) (by rfl) (by simp)
  | _ => exact ST.retP (EV.andD (l := false) (EV.call C1 (hr.mono (by decide)) (AV.cons (nm 0) AV.nil) ⟨_, rfl, hob, rfl, rfl⟩) fun z => by cases z) (by rfl) (by simp)
end
end J
/-! P2: clauses and rounds. -/
namespace J
open PySem PySem.Spec
open PyProof.Rows L2
variable [KC]
section
variable {w : World} {P : Program} {K : PySem.W.Frag} {base : Heap} {mg : Str → Option Value}
theorem scReadClause : FnScope ["text", "words", "deed"] ["text"] (defScope sReadClause) := ⟨rfl, rfl, rfl, by decide +kernel, rfl, by decide +kernel, by decide +kernel⟩
def cnReadClause : Con := fun rs μ r μ' => ∃ s : Str, rs = [Ss s] ∧ s.length ≤ 1000000 ∧ r = .dat (M.readClause s) ∧ μ' = μ
theorem cReadClause (T : Gf mg) (C1 : Cal P w K mg base "read_class" 2 ["words"] cnReadClass) (C2 : Cal P w K mg base "read_way" 2 ["words"] cnReadWay) (C3 : Cal P w K mg base "put_clause" 1 ["deed", "place", "more"] cnPutClause)
    (C4 : Cal P w K mg base "is_name" 1 ["value"] (fn1 (fun d => isObj d = false ∧ ∀ s, d = .str s → s.length ≤ 1000000) fun d => .bool (M.isName d))) (D : Df K mg "read_clause" sReadClause) : Cal P w K mg base "read_clause" 3 ["text"] cnReadClause := by
  refine D.cal scReadClause (fun _ _ _ _ _ _ us hl => match us, hl with | [_], _ => rfl) (by decide) (fun rs μ r μ' h => by obtain ⟨_, _, _, _, rfl⟩ := h; rfl) fun f cdv A outer s0 H E hr rs μ r μ' hC => ?_
  obtain ⟨s, rfl, hs, rfl, rfl⟩ := hC
  have hr1 := hr.mono (show 1 ≤ 2 by decide)
  obtain ⟨deed, ws, hsp⟩ := M.split_ne s " " (by decide +kernel) (by decide +kernel)
  refine ST.set (i := 1) (EV.split (nm 0) EV.str (by decide +kernel) (sz2 hs)) scReadClause.nd rfl (Or.inl rfl) ?_
  rw [hsp]
  have hrc : M.readClause s = (if inD (.str deed) [.str "join", .str "take"] then M.putClause deed (M.readClass (M.cutL (deed :: ws) (some 1) (some 4))) (M.readWay (M.cutL (deed :: ws) (some 4) none))
    else if deed == "clear" then M.putClause deed (M.readClass (M.cutL (deed :: ws) (some 1) none)) (.int 0)
    else if deed == "call" then (match deed :: ws with
      | [a, n, o, x, y, z] => if M.nameOk n && o == "on" then M.putClause deed (M.readClass (M.cutL [a, n, o, x, y, z] (some 3) none)) (.str n) else .none
      | _ => .none)
    else .none) := by
    unfold M.readClause
    rw [hsp]
    all_goals rfl
  rw [hrc]
  have hcl : ∀ vs : List Str, M.readClass vs = .none ∨ ∃ e d, M.readClass vs = .tuple [e, d] := fun vs => (M.readClass_cases vs).imp id fun ⟨e, d, _, _, _, h⟩ => ⟨_, _, h⟩
  refine ST.set (i := 2) (ixL (nm 1) EV.int (at_nat (i := 0) rfl)) scReadClause.nd rfl (Or.inl rfl) ?_
  refine ST.ifR (tInT (nm 2) (EV.tup (ds := [.str "join", .str "take"]) (AV.cons EV.str (AV.cons EV.str AV.nil))) rfl rfl) (fun hk => ?_) (fun hk => ?_)
  · rw [if_pos hk]
    exact ST.retP (EV.call C3 hr1 (AV.cons (nm 2) (AV.cons (EV.call C1 hr (AV.cons (EV.slL (nm 1) (PartV.some EV.int) (PartV.some EV.int)) AV.nil) ⟨M.cutL (deed :: ws) (some 1) (some 4), congrArg (fun z => [Ls z]) (M.cutD_map PyData.str (deed :: ws) _ _), trivial, rfl, rfl⟩)
      (AV.cons (EV.call C2 hr (AV.cons (EV.slL (nm 1) (PartV.some EV.int) PartV.none) AV.nil) ⟨M.cutL (deed :: ws) (some 4) none, congrArg (fun z => [Ls z]) (M.cutD_map PyData.str (deed :: ws) _ _), trivial, rfl, rfl⟩) AV.nil))) ⟨deed, _, _, rfl, hcl _, rfl, rfl⟩) rfl
  · rw [if_neg (by rw [hk]; exact Bool.false_ne_true)]
    refine ST.ifR (tEq (nm 2) EV.str) (fun hk => ?_) (fun hk => ?_)
    · have hk' : (deed == "clear") = true := hk
      rw [if_pos hk']
      exact ST.retP (EV.call C3 hr1 (AV.cons (nm 2) (AV.cons (EV.call C1 hr (AV.cons (EV.slL (nm 1) (PartV.some EV.int) PartV.none) AV.nil) ⟨M.cutL (deed :: ws) (some 1) none, congrArg (fun z => [Ls z]) (M.cutD_map PyData.str (deed :: ws) _ _), trivial, rfl, rfl⟩)
        (AV.cons EV.int AV.nil))) ⟨deed, _, _, rfl, hcl _, rfl, rfl⟩) rfl
    · have hk' : (deed == "clear") = false := hk
      rw [if_neg (by rw [hk']; exact Bool.false_ne_true)]
      cases hc : (deed == "call") with
      | false =>
        rw [if_neg (by simp)]
        refine ST.ifNo (WV.tv (WV.andF (tEq (nm 2) EV.str) (by exact hc))) rfl (ST.retP EV.non rfl)
      | true =>
        rw [if_pos rfl]
        by_cases h6 : (deed :: ws).length = 6
        · obtain ⟨n, o, x, y, z, rfl⟩ : ∃ n o x y z, ws = [n, o, x, y, z] := by
            match ws, h6 with
            | [n, o, x, y, z], _ => exact ⟨n, o, x, y, z, rfl⟩
          have hn : n.length ≤ 1000000 := Nat.le_trans (M.split_len s " " (by decide +kernel) (by decide +kernel) n (by rw [hsp]; simp)) hs
          show ST _ _ _ _ _ _ (PostR (.dat (if (M.nameOk n && o == "on") = true then _ else _)) _)
          refine ST.ifR (WV.tv (WV.andT (tEq (nm 2) EV.str) (WV.andT (tEq (bLenL T.bt (nm 1)) EV.int) (WV.andP (TV.val (EV.call C4 hr1 (AV.cons (ixL (nm 1) EV.int (at_nat (i := 1) rfl)) AV.nil) ⟨_, rfl, ⟨rfl, fun s h => by cases h; exact hn⟩, rfl, rfl⟩)) (WV.and1 (tEq (ixL (nm 1) EV.int (at_nat (i := 2) rfl)) EV.str)))) (by exact hc))) (fun hk => ?_) (fun hk => ?_)
          · have hk2 : (M.nameOk n && o == "on") = true := hk
            rw [if_pos hk2]
            exact ST.retP (EV.call C3 hr1 (AV.cons (nm 2) (AV.cons (EV.call C1 hr (AV.cons (EV.slL (nm 1) (PartV.some EV.int) PartV.none) AV.nil) ⟨M.cutL (deed :: [n, o, x, y, z]) (some 3) none, congrArg (fun z => [Ls z]) (M.cutD_map PyData.str (deed :: [n, o, x, y, z]) _ _), trivial, rfl, rfl⟩)
              (AV.cons (ixL (nm 1) EV.int (at_nat (i := 1) rfl)) AV.nil))) ⟨deed, _, _, rfl, hcl _, rfl, rfl⟩) rfl
          · have hk2 : (M.nameOk n && o == "on") = false := hk
            rw [if_neg (by rw [hk2]; exact Bool.false_ne_true)]
            exact ST.retP EV.non rfl
        · refine ST.ifNo (WV.tv (WV.andT (tEq (nm 2) EV.str) (WV.andF (tEq (bLenL T.bt (nm 1)) EV.int) (by simp [eqS] at h6 ⊢; omega)) (by exact hc))) rfl (ST.retP EV.non ?_)
          split
          · rename_i heq
            exact absurd (by rw [heq]; rfl) h6
          · rfl
end
end J
/-! P3: rounds. -/
namespace J
open PySem PySem.Spec
open PyProof.Rows L2
variable [KC]
section
variable {w : World} {P : Program} {K : PySem.W.Frag} {base : Heap} {mg : Str → Option Value}
abbrev nSP : List Str := ["clause", "other", "remainder", "divisor", "other_remainder", "other_divisor", "place"]
theorem scSharePlace : FnScope nSP ["clause", "other"] (defScope sSharePlace) := ⟨rfl, rfl, rfl, by decide +kernel, rfl, by decide +kernel, by decide +kernel⟩
def cnSharePlace : Con := fun rs μ r μ' => ∃ c o, rs = [.dat c, .dat o] ∧ (M.WfC c ∧ M.WfC o) ∧ r = Bb (M.share c o) ∧ μ' = μ
theorem cSharePlace (T : Gf mg) (D : Df K mg "share_place" sSharePlace) : Cal P w K mg base "share_place" 1 ["clause", "other"] cnSharePlace := by
  refine D.cal scSharePlace (fun _ _ _ _ _ _ us hl => match us, hl with | [_, _], _ => rfl) (by decide) (fun rs μ r μ' h => by obtain ⟨_, _, _, _, _, rfl⟩ := h; rfl) fun f cdv A outer s0 H E hr rs μ r μ' hC => ?_
  obtain ⟨c, o, rfl, ⟨hc, ho⟩, rfl, rfl⟩ := hC
  obtain ⟨n1, e, d, m1, rfl, e0, ed, d3, _, _⟩ := hc
  obtain ⟨n2, e2, d2, m2, rfl, e20, ed2, d23, _, _⟩ := ho
  refine ST.asg (is := [2, 3]) (EV.eq (EV.slT (nm 0) (PartV.some EV.int) (PartV.some EV.int)) (show Tp _ = .dat (.tuple [.int e, .int d]) from rfl)) (GV.tup (GsV.cons (GV.name (i := 2) scSharePlace.nd rfl (by first | exact Or.inl rfl | exact Or.inr rfl) (by simp)) (GsV.cons (GV.name (i := 3) scSharePlace.nd rfl (by first | exact Or.inl rfl | exact Or.inr rfl) (by simp)) GsV.nil))) ?_
  refine ST.asg (is := [4, 5]) (EV.eq (EV.slT (nm 1) (PartV.some EV.int) (PartV.some EV.int)) (show Tp _ = .dat (.tuple [.int e2, .int d2]) from rfl)) (GV.tup (GsV.cons (GV.name (i := 4) scSharePlace.nd rfl (by first | exact Or.inl rfl | exact Or.inr rfl) (by simp)) (GsV.cons (GV.name (i := 5) scSharePlace.nd rfl (by first | exact Or.inl rfl | exact Or.inr rfl) (by simp)) GsV.nil))) ?_
  have h9 : 0 < d * d2 ∧ d * d2 ≤ 9 := by
    have a1 : d = 1 ∨ d = 2 ∨ d = 3 := by omega
    have a2 : d2 = 1 ∨ d2 = 2 ∨ d2 = 3 := by omega
    rcases a1 with rfl | rfl | rfl <;> rcases a2 with rfl | rfl | rfl <;> decide
  refine ST.retP (bAny (bs := (rngD 0 (d * d2).toNat).map (M.hit e d e2 d2)) T.bt rfl (EV.eq (LCV.evf (own := [("place", 6)]) (LCV.map (fun x => .bool (M.hit e d e2 d2 x)) (IV.rng1 (oMul (nm 3) (nm 5) (.inl (by omega))) (by omega) (by omega) T.bt.range) (fun x hx => ?_) (by rw [rngD_len]; omega)) rfl scSharePlace.nd (blkOk_by (N := nSP) (sc := defScope sSharePlace) (by decide +kernel))).ev ?_)) ?_
  · obtain ⟨k, hk, rfl⟩ := rng_mem hx
    refine ⟨_, fun _ _ _ _ _ => GV.name (i := 6) scSharePlace.nd rfl (Or.inl rfl) (by simp), fun _ _ _ _ _ => ?_⟩
    exact EV.eq (EV.andD (cEq (oMod (nm 6) (nm 3) (by omega)) (nm 2)) fun _ => EV.one (cEq (oMod (nm 6) (nm 5) (by omega)) (nm 4))) rfl
  · rw [List.map_map]
    rfl
  · show Bb _ = Bb _
    rw [List.any_map]
    rfl
abbrev nFT : List Str := ["clauses", "calls", "clause", "at", "other"]
theorem scFitTogether : FnScope nFT ["clauses"] (defScope sFitTogether) := ⟨rfl, rfl, rfl, by decide +kernel, rfl, by decide +kernel, by decide +kernel⟩
def cnFit : Con := fun rs μ r μ' => ∃ cs, rs = [Ls cs] ∧ (cs.length ≤ 3 ∧ ∀ c ∈ cs, M.WfC c) ∧ r = Bb (M.fit cs) ∧ μ' = μ
theorem isCall_eq {deed : Str} {rest : List PyData} : M.isCall (.tuple (.str deed :: rest)) = (deed == "call") := rfl
theorem enD_mem {ds : List PyData} {n : Nat} {d : PyData} (h : d ∈ enD n ds) : ∃ (i : Nat) (c : PyData), ds[i]? = some c ∧ d = .tuple [.int ((n + i : Nat) : Int), c] := by
  obtain ⟨i, hi⟩ := List.mem_iff_getElem?.mp h
  obtain ⟨c, h1, h2⟩ := enD_get hi
  exact ⟨i, c, h1, h2⟩
theorem cutD_mem {cs : List PyData} {lo hi : Option Int} {x : PyData} (h : x ∈ cutD cs lo hi) : x ∈ cs := List.mem_of_mem_drop (List.mem_of_mem_take h)
theorem cutD_len {cs : List PyData} {lo hi : Option Int} : (cutD cs lo hi).length ≤ cs.length := by
  unfold cutD
  rw [List.length_take, List.length_drop]
  omega
theorem ahead_len {cs : List PyData} {d : PyData} : (M.ahead cs d).length ≤ cs.length := by
  have key : M.ahead cs d = [] ∨ ∃ i, M.ahead cs d = cutD cs none (some i) := by
    cases d with
    | tuple l =>
      match l with
      | [] => exact .inl rfl
      | [a] => cases a <;> exact .inl rfl
      | _ :: _ :: _ :: _ =>
        rename_i a _ _ _
        cases a <;> exact .inl rfl
      | [a, _] =>
        cases a with
        | int i => exact .inr ⟨i, rfl⟩
        | _ => exact .inl rfl
    | _ => exact .inl rfl
  rcases key with e | ⟨i, e⟩
  · rw [e]
    exact Nat.zero_le _
  · rw [e]
    exact cutD_len
theorem flat_len {α : Type} (F : α → List PyData) (m : Nat) (hF : ∀ d, (F d).length ≤ m) : ∀ (l : List α), (l.flatMap F).length ≤ l.length * m
  | [] => by simp
  | d :: l => by
    rw [List.flatMap_cons, List.length_append, List.length_cons, Nat.add_mul]
    have := flat_len F m hF l
    have := hF d
    omega
theorem cFit (T : Gf mg) (C1 : Cal P w K mg base "share_place" 1 ["clause", "other"] cnSharePlace) (D : Df K mg "fit_together" sFitTogether) : Cal P w K mg base "fit_together" 2 ["clauses"] cnFit := by
  refine D.cal scFitTogether (fun _ _ _ _ _ _ us hl => match us, hl with | [_], _ => rfl) (by decide) (fun rs μ r μ' h => by obtain ⟨_, _, _, _, rfl⟩ := h; rfl) fun f cdv A outer s0 H E hr rs μ r μ' hC => ?_
  obtain ⟨cs, rfl, ⟨h3, hw⟩, rfl, rfl⟩ := hC
  refine ST.lc (i := 1) (own := [("clause", 2)]) (LCV.map (fun c => .bool (M.isCall c)) (IV.lst (nm 0)) (fun c hc => ?_) (by omega)) rfl scFitTogether.nd rfl rfl (blkOk_by (N := nFT) (sc := defScope sFitTogether) (by decide +kernel)) ?_ (sw_true rfl rfl rfl (by decide +kernel))
  · obtain ⟨n1, e, d, m1, rfl, _⟩ := hw c hc
    exact ⟨_, fun _ _ _ _ _ => GV.name (i := 2) scFitTogether.nd rfl (Or.inl rfl) (by simp), fun _ _ _ _ _ => EV.eq (cEq (ixT (nm 2) EV.int (at_nat (i := 0) rfl)) EV.str) rfl⟩
  · have ec : cs.map (fun c => PyData.bool (M.isCall c)) = (cs.map M.isCall).map .bool := by rw [List.map_map]; rfl
    rw [ec]
    have hf : M.fit cs = (if (cs.map M.isCall).any id && !((cs.map M.isCall).all id) then false else !(((enD 0 cs).flatMap fun d => (M.ahead cs d).map (M.shareAt d)).any id)) := rfl
    refine ST.ifR (WV.tv (WV.andP (TV.val (bAny T.bt rfl (nm 1))) (WV.and1 (TV.not (TV.val (bAll T.bt rfl (nm 1))))))) (fun hk => ?_) (fun hk => ?_)
    · refine ST.retP EV.bl ?_
      rw [hf, if_pos hk]
      rfl
    · have e2 : M.fit cs = !(((enD 0 cs).flatMap fun d => (M.ahead cs d).map (M.shareAt d)).any id) := by rw [hf, if_neg (by rw [hk]; exact Bool.false_ne_true)]
      rw [e2]
      refine ST.retP (EV.not (bAny (bs := (enD 0 cs).flatMap fun d => (M.ahead cs d).map (M.shareAt d)) T.bt rfl (EV.eq (LCV2.evf (own := [("at", 3), ("clause", 2), ("other", 4)]) (vs1 := [4]) (M.ahead cs) (fun d o => .bool (M.shareAt d o)) (IV.enum (nm 0) T.bt.enumerate) rfl scFitTogether.nd (blkOk_by (N := nFT) (sc := defScope sFitTogether) (by decide +kernel)) (by simp) (fun d hd => ?_) (fun m => ?_) (fun m d hd m2 => ?_)).ev ?_))) rfl
      · obtain ⟨i, c, hc, rfl⟩ := enD_mem hd
        have hcm : c ∈ cs := List.mem_iff_getElem?.mpr ⟨i, hc⟩
        refine ⟨_, fun _ _ _ _ _ => GV.tup (GsV.cons (GV.name (i := 3) scFitTogether.nd rfl (by first | exact Or.inl rfl | exact Or.inr rfl) (by simp)) (GsV.cons (GV.name (i := 2) scFitTogether.nd rfl (by first | exact Or.inl rfl | exact Or.inr rfl) (by simp)) GsV.nil)), fun _ _ _ _ _ => IV.lst (EV.slL (nm 0) PartV.none (PartV.some (nm 3))), fun o ho => ?_⟩
        refine ⟨_, fun _ _ _ _ _ => GV.name (i := 4) scFitTogether.nd rfl (Or.inl rfl) (by simp), fun _ _ _ _ _ => ?_⟩
        exact EV.call C1 hr (AV.cons (nm 2) (AV.cons (nm 4) AV.nil)) ⟨c, o, rfl, ⟨hw c hcm, hw o (cutD_mem ho)⟩, rfl, rfl⟩
      · refine Nat.le_trans (flat_len _ 3 (fun d => by rw [List.length_map]; exact Nat.le_trans ahead_len h3) _) ?_
        rw [List.length_take, enD_len]
        omega
      · have h1 : (M.ahead cs d).length ≤ 3 := Nat.le_trans ahead_len h3
        by_cases hm : m2 ≤ 3
        · refine .inl ?_
          have := flat_len (fun d => (M.ahead cs d).map fun o => PyData.bool (M.shareAt d o)) 3 (fun d => by rw [List.length_map]; exact Nat.le_trans ahead_len h3) ((enD 0 cs).take m)
          rw [List.length_take, enD_len] at this
          omega
        · exact .inr (by omega)
      · rw [List.map_flatMap]
        congr 2
        funext d
        rw [List.map_map]
        rfl
abbrev nRR : List Str := ["text", "clauses", "part"]
theorem scReadRound : FnScope nRR ["text"] (defScope sReadRound) := ⟨rfl, rfl, rfl, by decide +kernel, rfl, by decide +kernel, by decide +kernel⟩
def cnReadRound : Con := fun rs μ r μ' => ∃ d, rs = [.dat d] ∧ (isObj d = false ∧ ∀ s, d = .str s → s.length ≤ 99990) ∧ r = .dat (M.readRound d) ∧ μ' = μ
def clF : PyData → PyData
  | .str s => M.readClause s
  | d => d
theorem cReadRound (T : Gf mg) (C1 : Cal P w K mg base "read_clause" 3 ["text"] cnReadClause) (C2 : Cal P w K mg base "fit_together" 2 ["clauses"] cnFit) (D : Df K mg "read_round" sReadRound) : Cal P w K mg base "read_round" 4 ["text"] cnReadRound := by
  refine D.cal scReadRound (fun _ _ _ _ _ _ us hl => match us, hl with | [_], _ => rfl) (by decide) (fun rs μ r μ' h => by obtain ⟨_, _, _, _, rfl⟩ := h; rfl) fun f cdv A outer s0 H E hr rs μ r μ' hC => ?_
  obtain ⟨d, rfl, ⟨hob, hs⟩, rfl, rfl⟩ := hC
  cases hd : isStrL d with
  | false =>
    refine ST.ifYes (TV.not (TV.val (isI T.bt (nm 0) (kit_str d) (by decide +kernel) T.bt.str))) (by rw [hd]; rfl) (ST.retP EV.non ?_)
    cases d <;> first | rfl | cases hd
  | true =>
    obtain ⟨s, rfl⟩ : ∃ s, d = .str s := by cases d <;> first | exact ⟨_, rfl⟩ | cases hd
    have hl := hs s rfl
    refine ST.ifNo (TV.not (TV.val (isI T.bt (nm 0) (kit_str _) (by decide +kernel) T.bt.str))) rfl ?_
    have hpl : ((Txt.split s "; ").map PyData.str).length ≤ 100000 := by
      rw [List.length_map, M.split_list s "; " (by decide +kernel) (by decide +kernel), List.length_map]
      have : ∀ (S : List Nat) (k : Nat) (acc l : List Nat), (TL.spl S k acc l).length ≤ l.length + 1 := by
        intro S k acc l
        induction l generalizing k acc with
        | nil => rw [TL.spl_nil]; simp
        | cons c r ih =>
          cases k with
          | zero =>
            unfold TL.spl
            split
            · have := ih (S.length - 1) []
              simp
              omega
            · have := ih 0 (acc ++ [c])
              simp
              omega
          | succ k =>
            unfold TL.spl
            have := ih k acc
            simp
            omega
      have h2 := this (TL.tl "; ") 0 [] (TL.tl s)
      rw [← TL.len_tl] at h2
      omega
    refine ST.lc (i := 1) (own := [("part", 2)]) (LCV.map clF (IV.lst (EV.split (nm 0) EV.str (by decide +kernel) (sz2 (by omega)))) (fun c hc => ?_) hpl) rfl scReadRound.nd rfl rfl (blkOk_by (N := nRR) (sc := defScope sReadRound) (by decide +kernel)) ?_ (sw_true rfl rfl rfl (by decide +kernel))
    · obtain ⟨p, hp, rfl⟩ := List.mem_map.mp hc
      have := M.split_len s "; " (by decide +kernel) (by decide +kernel) p hp
      exact ⟨_, fun _ _ _ _ _ => GV.name (i := 2) scReadRound.nd rfl (Or.inl rfl) (by simp), fun _ _ _ _ _ => EV.call C1 (hr.mono (by decide)) (AV.cons (nm 2) AV.nil) ⟨p, rfl, by omega, rfl, rfl⟩⟩
    · have ec : ((Txt.split s "; ").map PyData.str).map clF = (Txt.split s "; ").map M.readClause := by rw [List.map_map]; rfl
      rw [ec]
      generalize hcs : (Txt.split s "; ").map M.readClause = cs
      have hcw : ∀ c ∈ cs, c = .none ∨ M.WfC c := by
        intro c hc
        rw [← hcs] at hc
        obtain ⟨p, _, rfl⟩ := List.mem_map.mp hc
        exact M.readClause_cases p
      have hrr : M.readRound (.str s) = (if cs.length > 3 then .none else if cs.any isNone then .none else if M.fit cs then .tuple cs else .none) := by
        rw [← hcs]
        rfl
      rw [hrr]
      have hu := hr.units
      by_cases h3 : cs.length > 3
      · rw [if_pos h3]
        exact ST.ifYes (WV.tv (WV.orT (tGt (bLenL T.bt (nm 1)) (gI T.mclauses)) (by exact decide_eq_true (by omega)))) rfl (ST.retP EV.non rfl)
      · rw [if_neg h3]
        cases hn : cs.any isNone with
        | true =>
          rw [if_pos rfl]
          exact ST.ifYes (WV.tv (WV.orF (tGt (bLenL T.bt (nm 1)) (gI T.mclauses)) (WV.orT (tInDeep (u65 hr) EV.non (nm 1) (by rfl) (M.cls_shaped hcw)) (by exact (M.any_none hcw).trans hn)) (by exact decide_eq_false (by omega)))) rfl (ST.retP EV.non rfl)
        | false =>
          rw [if_neg (by simp)]
          have hw2 : ∀ c ∈ cs, M.WfC c := fun c hc => (hcw c hc).resolve_left fun z => by
            have := List.any_eq_false.mp hn c hc
            rw [z] at this
            exact this rfl
          refine ST.ifR (WV.tv (WV.orF (tGt (bLenL T.bt (nm 1)) (gI T.mclauses)) (WV.orF (tInDeep (u65 hr) EV.non (nm 1) (by rfl) (M.cls_shaped hcw)) (WV.or1 (TV.not (TV.val (EV.call C2 (hr.mono (by decide)) (AV.cons (nm 1) AV.nil) ⟨cs, rfl, ⟨by omega, hw2⟩, rfl, rfl⟩)))) (by exact (M.any_none hcw).trans hn)) (by exact decide_eq_false (by omega)))) (fun hk => ?_) (fun hk => ?_)
          · rw [if_neg (by simp at hk; rw [hk]; exact Bool.false_ne_true)]
            exact ST.retP EV.non rfl
          · rw [if_pos (by simpa using hk)]
            exact ST.retP (bTupL T.bt (nm 1)) rfl
end
end J
/-! MH1: hazards: if there is one at any length, there is one at a length up to 14. -/
namespace GH
/-- what a clause does: join 0, take 1, clear 2; its class, and the signed distance -/
structure Hc where
  w : Nat
  e : Int
  d : Int
  f : Int
def Hc.good (c : Hc) : Prop := c.w ≤ 2 ∧ 0 ≤ c.e ∧ c.e < c.d ∧ (c.d = 1 ∨ c.d = 2 ∨ c.d = 3) ∧ -4 ≤ c.f ∧ c.f ≤ 4
/-- at this length the clause does something at this place -/
def Hc.does (c : Hc) (n p : Int) : Prop := (0 ≤ p ∧ p < n ∧ p % c.d = c.e) ∧ (c.w ≠ 0 ∨ (0 ≤ p + c.f ∧ p + c.f < n))
/-- at this length the clause reads this place from another one -/
def Hc.reads (c : Hc) (n p : Int) : Prop := c.w ≠ 2 ∧ 0 ≤ p ∧ p < n ∧ 0 ≤ p - c.f ∧ p - c.f < n ∧ (p - c.f) % c.d = c.e
theorem shift {a b : Hc} (ha : a.good) (hb : b.good) (hd : a.d = b.d) {n p : Int} (h1 : a.does n p) (h2 : b.reads n p) : ∃ m q : Int, 1 ≤ m ∧ m ≤ 14 ∧ a.does m q ∧ b.reads m q := by
  obtain ⟨w1, e1, d1, f1⟩ := a
  obtain ⟨w2, e2, d2, f2⟩ := b
  obtain ⟨_, a1, a2, a3, a4, a5⟩ := ha
  obtain ⟨_, b1, b2, b3, b4, b5⟩ := hb
  obtain ⟨⟨p0, p1, p2⟩, p3⟩ := h1
  obtain ⟨q0, q1, q2, q3, q4, q5⟩ := h2
  dsimp only at *
  subst hd
  by_cases hj : w1 = 0
  · obtain ⟨r0, r1⟩ : 0 ≤ p + f1 ∧ p + f1 < n := p3.resolve_left (fun z => z hj)
    -- the leftmost of p, p + f1, p - f2
    obtain ⟨t, ht0, ht6, hp, hr, hq⟩ : ∃ t : Int, t % 6 = 0 ∧ 0 ≤ t ∧ t ≤ p ∧ t ≤ p + f1 ∧ (t ≤ p - f2 ∧ (p - t ≤ 13 ∧ p + f1 - t ≤ 13 ∧ p - f2 - t ≤ 13)) := by
      by_cases c1 : p ≤ p + f1 ∧ p ≤ p - f2
      · exact ⟨p / 6 * 6, by omega, by omega, by omega, by omega, by omega, by omega, by omega, by omega⟩
      · by_cases c2 : p + f1 ≤ p - f2
        · exact ⟨(p + f1) / 6 * 6, by omega, by omega, by omega, by omega, by omega, by omega, by omega, by omega⟩
        · exact ⟨(p - f2) / 6 * 6, by omega, by omega, by omega, by omega, by omega, by omega, by omega, by omega⟩
    obtain ⟨hq, x1, x2, x3⟩ := hq
    refine ⟨14, p - t, by decide, by decide, ⟨⟨by omega, by omega, ?_⟩, .inr ⟨?_, ?_⟩⟩, q0, by omega, by omega, ?_, ?_, ?_⟩
    · show (p - t) % d1 = e1
      rcases a3 with h | h | h <;> rw [h] at p2 ⊢ <;> omega
    · show 0 ≤ p - t + f1
      omega
    · show p - t + f1 < 14
      omega
    · show 0 ≤ p - t - f2
      omega
    · show p - t - f2 < 14
      omega
    · show (p - t - f2) % d1 = e2
      rcases a3 with h | h | h <;> rw [h] at q5 ⊢ <;> omega
  · obtain ⟨t, ht0, ht6, hp, hq⟩ : ∃ t : Int, t % 6 = 0 ∧ 0 ≤ t ∧ t ≤ p ∧ (t ≤ p - f2 ∧ (p - t ≤ 13 ∧ p - f2 - t ≤ 13)) := by
      by_cases c1 : p ≤ p - f2
      · exact ⟨p / 6 * 6, by omega, by omega, by omega, by omega, by omega, by omega⟩
      · exact ⟨(p - f2) / 6 * 6, by omega, by omega, by omega, by omega, by omega, by omega⟩
    obtain ⟨hq, x1, x3⟩ := hq
    refine ⟨14, p - t, by decide, by decide, ⟨⟨by omega, by omega, ?_⟩, .inl hj⟩, q0, by omega, by omega, ?_, ?_, ?_⟩
    · show (p - t) % d1 = e1
      rcases a3 with h | h | h <;> rw [h] at p2 ⊢ <;> omega
    · show 0 ≤ p - t - f2
      omega
    · show p - t - f2 < 14
      omega
    · show (p - t - f2) % d1 = e2
      rcases a3 with h | h | h <;> rw [h] at q5 ⊢ <;> omega
end GH
/-! MS1: the places of a class. -/
namespace M
open PySem J L2
variable [KC]
def isPlace (p n : Int) : Bool := decide (0 ≤ p) && decide (p < n)
def spots (e n d : Int) : List Int := (List.range (Builtin.Range.rangeSize e n d).toNat).map fun (k : Nat) => e + (k : Int) * d
end M
namespace J
open PySem PySem.Spec
open PyProof.Rows L2
variable [KC]
theorem rngC_spots (e n d : Int) : rngC e d (Builtin.Range.rangeSize e n d).toNat = (M.spots e n d).map .int := by
  unfold rngC M.spots
  rw [List.map_map]
  rfl
end J
namespace GC
open PySem J L2 M
variable [KC]
theorem spot_iff {e n d p : Int} (he : 0 ≤ e) (hd : 1 ≤ d) (hr : e < d) : p ∈ spots e n d ↔ 0 ≤ p ∧ p < n ∧ p % d = e := by
  unfold spots
  have hd0 : 0 < d := Int.lt_of_lt_of_le Int.zero_lt_one hd
  have hdn : 0 ≤ d := Int.le_of_lt hd0
  constructor
  · intro h
    obtain ⟨k, hk, rfl⟩ := List.mem_map.mp h
    have hk' := List.mem_range.mp hk
    unfold Builtin.Range.rangeSize at hk'
    rw [if_pos hd0] at hk'
    split at hk'
    · have h1 : (k : Int) ≤ (n - e - 1) / d := by omega
      have h2 := (Int.le_ediv_iff_mul_le hd0).mp h1
      have h3 : 0 ≤ (k : Int) * d := Int.mul_nonneg (Int.natCast_nonneg k) hdn
      refine ⟨Int.add_nonneg he h3, by omega, ?_⟩
      rw [Int.add_mul_emod_self_right]
      exact Int.emod_eq_of_lt he hr
    · simp at hk'
  · rintro ⟨h0, hn, hm⟩
    have hdiv : p = e + p / d * d := by
      have := Int.mul_ediv_add_emod p d
      rw [hm, Int.mul_comm, Int.add_comm] at this
      exact this.symm
    have hq : 0 ≤ p / d := Int.ediv_nonneg h0 hdn
    have h3 : 0 ≤ p / d * d := Int.mul_nonneg hq hdn
    refine List.mem_map.mpr ⟨(p / d).toNat, List.mem_range.mpr ?_, ?_⟩
    · unfold Builtin.Range.rangeSize
      rw [if_pos hd0, if_pos (by omega)]
      have h1 : p / d ≤ (n - e - 1) / d := (Int.le_ediv_iff_mul_le hd0).mpr (by omega)
      omega
    · rw [Int.toNat_of_nonneg hq]
      exact hdiv.symm
end GC
/-! M4: plans, books, as plain functions. -/
namespace M
open PySem J L2
variable [KC]
def clauseStands (ns : List Str) (at_ : Int) : PyData → Bool
  | .tuple [.str deed, _, .int d, more] => !(deed == "call" && !inD more ((cutL ns (some (if d == 1 then at_ + 1 else 0)) none).map .str))
  | _ => false
def canStand (text : PyData) (ns : List Str) (at_ : Int) : Bool := match readRound text with
  | .tuple cs => cs.all (clauseStands ns at_)
  | _ => false
def areRounds : PyData → Bool
  | .tuple ds => (decide (1 ≤ (ds.length : Int)) && decide ((ds.length : Int) ≤ 5)) && ds.all fun x => !isNone (readRound x)
  | _ => false
def baseOk : PyData → Bool
  | .int b => decide (1 ≤ b) && decide (b ≤ 4)
  | _ => false
def isPlan : PyData → Bool
  | .tuple [n, g, b, r] => baseOk b && (isName n && (isGoal g && areRounds r))
  | _ => false
/-- its texts are not too long -/
def smallT (d : PyData) : Prop := ∀ s, d = .str s → s.length ≤ 99990
def smallR (d : PyData) : Prop := ∀ ds, d = .tuple ds → ∀ x ∈ ds, smallT x
def smallP (d : PyData) : Prop := ∀ n g b r, d = .tuple [n, g, b, r] → smallT n ∧ smallR r
theorem readRound_cases (d : PyData) : readRound d = .none ∨ ∃ cs, readRound d = .tuple cs ∧ ∀ c ∈ cs, WfC c := by
  unfold readRound
  split
  · rename_i s
    dsimp only
    split
    · exact .inl rfl
    · split
      · exact .inl rfl
      · rename_i h
        split
        · refine .inr ⟨_, rfl, fun c hc => ?_⟩
          obtain ⟨p, hp, rfl⟩ := List.mem_map.mp hc
          rcases readClause_cases p with q | q
          · exfalso
            apply h
            rw [List.any_eq_true]
            exact ⟨_, hc, by rw [q]; rfl⟩
          · exact q
        · exact .inl rfl
  · exact .inl rfl
def nameOf : PyData → Str
  | .tuple (.str n :: _) => n
  | _ => Str.empty
def roundsOf : PyData → List PyData
  | .tuple [_, _, _, .tuple rs] => rs
  | _ => []
/-- a good book's plans -/
structure Good (ps : List PyData) : Prop where
  le4 : ps.length ≤ 4
  ge1 : 1 ≤ ps.length
  each : ∀ p ∈ ps, isPlan p = true ∧ smallP p
  nd : (ps.map nameOf).Nodup
  stand : ∀ (i : Nat) (p : PyData), ps[i]? = some p → ∀ t ∈ roundsOf p, canStand t (ps.map nameOf) i = true
theorem plan_shape {p : PyData} (h : isPlan p = true) : ∃ n g b rs, p = .tuple [.str n, .str g, .int b, .tuple rs] ∧ nameOk n = true ∧ isGoal (.str g) = true ∧ 1 ≤ b ∧ b ≤ 4 ∧ areRounds (.tuple rs) = true := by
  cases p with
  | tuple l =>
    match l, h with
    | [n, g, b, r], h =>
      have h' : (baseOk b && (isName n && (isGoal g && areRounds r))) = true := h
      rw [Bool.and_eq_true, Bool.and_eq_true, Bool.and_eq_true] at h'
      obtain ⟨h1, h2, h3, h4⟩ := h'
      cases b <;> first | (cases h1; done) | skip
      cases n <;> first | (cases h2; done) | skip
      cases g <;> first | (cases h3; done) | skip
      cases r <;> first | (cases h4; done) | skip
      rename_i b n g rs
      unfold baseOk at h1
      rw [Bool.and_eq_true, decide_eq_true_eq, decide_eq_true_eq] at h1
      exact ⟨n, g, b, rs, rfl, h2, h3, h1.1, h1.2, h4⟩
    | [], h => cases h
    | [_], h => cases h
    | [_, _], h => cases h
    | [_, _, _], h => cases h
    | _ :: _ :: _ :: _ :: _ :: _, h => cases h
  | _ => cases h
theorem rounds_str {rs : List PyData} (h : areRounds (.tuple rs) = true) : ∀ x ∈ rs, ∃ s, x = .str s := by
  intro x hx
  unfold areRounds at h
  rw [Bool.and_eq_true] at h
  have h2 := List.all_eq_true.mp h.2 x hx
  cases x with
  | str s => exact ⟨s, rfl⟩
  | _ => simp [readRound, isNone] at h2
theorem plan_nob {p : PyData} (h : isPlan p = true) : nob p = true := by
  obtain ⟨n, g, b, rs, rfl, _, _, _, _, hr⟩ := plan_shape h
  have : nobAll rs = true := nobAll_of fun x hx => by
    obtain ⟨s, rfl⟩ := rounds_str hr x hx
    rfl
  simp [nob, nobAll, this]
end M
/-! G1: what the law draws, as plain functions of a purse. -/
namespace G
open PySem J
variable [KC]
/-- the three numbers of a purse -/
structure Pu where
  a : Int
  b : Int
  c : Int
def Pu.ds (p : Pu) : List PyData := [.int p.a, .int p.b, .int p.c]
def Pu.ok (p : Pu) : Prop := 0 ≤ p.a ∧ p.a < 2147483563 ∧ 0 ≤ p.b
/-- a draw from 0 to m - 1, and the purse behind it -/
def mixA (p : Pu) : Int := (p.a * (p.a % 997 + 40014) + 12211 * (p.c + 1) + 7) % 2147483563
def draw (m : Int) (p : Pu) : Int × Pu :=
  if 0 < p.b then (p.b % m, ⟨mixA p, p.b / m, p.c + 1⟩) else (mixA p / 53 % m, ⟨mixA p, p.b, p.c + 1⟩)
theorem draw_ok {m : Int} {p : Pu} (h : p.ok) (hm : 0 < m) : 0 ≤ (draw m p).1 ∧ (draw m p).1 < m ∧ (draw m p).2.ok := by
  obtain ⟨h1, h2, h3⟩ := h
  have a1 : 0 ≤ mixA p := Int.emod_nonneg _ (by decide)
  have a2 : mixA p < 2147483563 := Int.emod_lt_of_pos _ (by decide)
  unfold draw
  split
  · exact ⟨Int.emod_nonneg _ (by omega), Int.emod_lt_of_pos _ hm, a1, a2, Int.ediv_nonneg h3 (by omega)⟩
  · exact ⟨Int.emod_nonneg _ (by omega), Int.emod_lt_of_pos _ hm, a1, a2, h3⟩
/-- the k-th item of a menu -/
def nth {α : Type} (d : α) (l : List α) (i : Int) : α := l.getD i.toNat d
theorem nth_some {α : Type} {d : α} {l : List α} {i : Int} (h0 : 0 ≤ i) (h1 : i < l.length) : l[i.toNat]? = some (nth d l i) := by
  have : i.toNat < l.length := by omega
  unfold nth
  rw [List.getD_eq_getElem?_getD]
  simp [this]
theorem nth_mem {α : Type} {d : α} {l : List α} {i : Int} (h0 : 0 ≤ i) (h1 : i < l.length) : nth d l i ∈ l := List.mem_iff_getElem?.mpr ⟨_, nth_some h0 h1⟩
def pick {α : Type} (d : α) (l : List α) (p : Pu) : α × Pu := (nth d l (draw l.length p).1, (draw l.length p).2)
theorem pick_ok {α : Type} {d : α} {l : List α} {p : Pu} (h : p.ok) (hl : l ≠ []) : (pick d l p).1 ∈ l ∧ (pick d l p).2.ok := by
  have hp : 0 < (l.length : Int) := by
    have := List.length_pos_iff.mpr hl
    omega
  obtain ⟨h1, h2, h3⟩ := draw_ok (m := l.length) h hp
  exact ⟨nth_mem h1 h2, h3⟩
/-- things drawn one behind another, each for an item -/
def run {α β : Type} (f : β → Pu → α × Pu) : List β → Pu → List α × Pu
  | [], p => ([], p)
  | b :: bs, p => ((f b p).1 :: (run f bs (f b p).2).1, (run f bs (f b p).2).2)
theorem run_snoc {α β : Type} (f : β → Pu → α × Pu) : ∀ (bs : List β) (b : β) (p : Pu), run f (bs ++ [b]) p = ((run f bs p).1 ++ [(f b (run f bs p).2).1], (f b (run f bs p).2).2)
  | [], b, p => rfl
  | x :: bs, b, p => by
    have := run_snoc f bs b (f x p).2
    show ((f x p).1 :: (run f (bs ++ [b]) (f x p).2).1, (run f (bs ++ [b]) (f x p).2).2) = _
    rw [this]
    rfl
theorem run_len {α β : Type} (f : β → Pu → α × Pu) : ∀ (bs : List β) (p : Pu), (run f bs p).1.length = bs.length
  | [], p => rfl
  | b :: bs, p => by
    show ((f b p).1 :: (run f bs (f b p).2).1).length = _
    rw [List.length_cons, run_len f bs, List.length_cons]
theorem run_ok {α β : Type} {f : β → Pu → α × Pu} {R : β → α → Prop} : ∀ (bs : List β) (p : Pu), (∀ b ∈ bs, ∀ q, q.ok → R b (f b q).1 ∧ (f b q).2.ok) → p.ok → (∀ x ∈ (run f bs p).1, ∃ b ∈ bs, R b x) ∧ (run f bs p).2.ok
  | [], p, hf, h => ⟨fun x hx => by simp [run] at hx, h⟩
  | b :: bs, p, hf, h => by
    obtain ⟨h1, h2⟩ := hf b List.mem_cons_self p h
    obtain ⟨h3, h4⟩ := run_ok bs (f b p).2 (fun c hc => hf c (List.mem_cons_of_mem _ hc)) h2
    refine ⟨fun x hx => ?_, h4⟩
    have hx' : x ∈ (f b p).1 :: (run f bs (f b p).2).1 := hx
    rcases List.mem_cons.mp hx' with rfl | hx
    · exact ⟨b, List.mem_cons_self, h1⟩
    · obtain ⟨c, hc, r⟩ := h3 x hx
      exact ⟨c, List.mem_cons_of_mem _ hc, r⟩
abbrev many {α : Type} (f : Pu → α × Pu) (n : Nat) (p : Pu) : List α × Pu := run (fun _ => f) (List.range n) p
/-! ### names -/
def words : List Str := ["join", "take", "clear", "call", "plan", "base", "all", "last", "before", "left", "right", "on", "of", "a", "a1", "z9"]
def signs : List Nat := (M.letters ++ M.digits).cps.toList
def tag (p : Pu) : Str × Pu :=
  let r := draw 4 p
  if r.1 = 0 then pick Str.empty words r.2
  else
    let f := draw 26 r.2
    let n := draw 8 f.2
    let q := many (pick 0 signs) n.1.toNat n.2
    (⟨(nth 0 signs f.1 :: q.1).toArray⟩, q.2)
def spares : List Str := ["a", "b", "up2", "d", "e"]
def freshTag (found : List Str) (t : Str) : Str := if t ∈ found then (spares.filter fun s => decide (s ∉ found)).headD Str.empty else t
def tags (p : Pu) : Nat → List Str × Pu
  | 0 => ([], p)
  | n + 1 => ((tags p n).1 ++ [freshTag (tags p n).1 (tag (tags p n).2).1], (tag (tags p n).2).2)
/-! ### goals, deeds, rounds, plans -/
def goalD (p : Pu) : (Str × Int) × Pu :=
  let r := draw 4 p
  if r.1 < 2 then ((nth Str.empty ["all", "before"] r.1, 0), r.2)
  else
    let k := draw 4 r.2
    (("last", 1 + k.1), k.2)
/-- word, over, by, side, far, called -/
structure Part where
  word : Str
  over : Int
  by_ : Int
  side : Str
  far : Int
  tag : Str
def Part.d (x : Part) : PyData := .tuple [.str x.word, .int x.over, .int x.by_, .str x.side, .int x.far, .str x.tag]
def deed (over by_ : Int) (p : Pu) : Part × Pu :=
  let w := pick Str.empty ["join", "join", "take", "clear"] p
  let s := pick Str.empty ["left", "right"] w.2
  let f := draw 4 s.2
  ((if w.1 = "clear" then ⟨"clear", over, by_, Str.empty, 0, Str.empty⟩ else ⟨w.1, over, by_, s.1, 1 + f.1, Str.empty⟩), f.2)
/-- what is free, what is found, the purse -/
def oversN (by_ : Nat) (p : Pu) : Nat → List Int × List Int × Pu
  | 0 => ((List.range by_).map fun (i : Nat) => (0 + (i : Int)), [], p)
  | n + 1 =>
    let s := oversN by_ p n
    let r := draw s.1.length s.2.2
    (s.1.eraseIdx r.1.toNat, s.2.1 ++ [nth 0 s.1 r.1], r.2)
def overs (by_ : Nat) (p : Pu) : List Int × Pu :=
  let r := draw by_ p
  (oversN by_ r.2 (1 + r.1).toNat).2
def callPart (by_ : Int) (known : List Str) (o : Int) (p : Pu) : Part × Pu := let r := pick Str.empty known p; (⟨"call", o, by_, Str.empty, 0, r.1⟩, r.2)
def round (lower tags : List Str) (p : Pu) : List Part × Pu :=
  let c := draw 3 p
  let b := draw 3 c.2
  let by_ : Int := if c.1 = 0 ∧ 1 + b.1 = 1 ∧ lower = [] then 2 else 1 + b.1
  let os := overs by_.toNat b.2
  if c.1 = 0 then run (callPart by_ (if by_ = 1 then lower else tags)) os.1 os.2 else run (fun o => deed o by_) os.1 os.2
structure Mate where
  tag : Str
  goal : Str × Int
  base : Int
  rounds : List (List Part)
def Mate.d (x : Mate) : PyData := .tuple [.str x.tag, .tuple [.str x.goal.1, .int x.goal.2], .int x.base, .list (x.rounds.map fun r => .list (r.map Part.d))]
def mate (tags : List Str) (mny : Int) (k : Nat) (p : Pu) : Mate × Pu :=
  let n := draw mny p
  let rs := many (round (tags.drop (k + 1)) tags) (1 + n.1).toNat n.2
  let g := goalD rs.2
  let b := draw 4 g.2
  (⟨tags.getD k Str.empty, g.1, 1 + b.1, rs.1⟩, b.2)
def matesN (tags : List Str) (mny : Int) (p : Pu) : Nat → List Mate × Pu
  | 0 => ([], p)
  | k + 1 => ((matesN tags mny p k).1 ++ [(mate tags mny k (matesN tags mny p k).2).1], (mate tags mny k (matesN tags mny p k).2).2)
def mates (most mny : Int) (p : Pu) : List Mate × Pu :=
  let n := draw most p
  let ts := tags n.2 (1 + n.1).toNat
  matesN ts.1 mny ts.2 ts.1.length
/-! ### texts -/
def ends (x : Part) : Str := M.strI x.over ++ " of " ++ M.strI x.by_
def clause (x : Part) : Str :=
  if x.word = "call" then "call " ++ x.tag ++ " on " ++ ends x
  else if x.word = "clear" then "clear " ++ ends x
  else x.word ++ " " ++ ends x ++ " " ++ x.side ++ " " ++ M.strI x.far
def line (r : List Part) : Str := Txt.join "; " (r.map clause)
def aim (g : Str × Int) : Str := if g.1 = "last" then g.1 ++ " " ++ M.strI g.2 else g.1
def told (x : Mate) : PyData := .tuple [.str x.tag, .str (aim x.goal), .int x.base, .tuple (x.rounds.map fun r => .str (line r))]
end G
/-! P4: plans. -/
namespace J
open PySem PySem.Spec
open PyProof.Rows L2
variable [KC]
section
variable {w : World} {P : Program} {K : PySem.W.Frag} {base : Heap} {mg : Str → Option Value}
/-- names in a tuple or in a list that changes -/
def NamesAt (μ : Sto) (r : Ent) (ns : List Str) : Prop := (∃ k, r = .ptr k ∧ μ[k]? = some (ns.map .str)) ∨ r = Tp (ns.map .str)
abbrev nCS : List Str := ["text", "names", "at", "clauses", "deed", "remainder", "divisor", "more", "lowest"]
theorem scCanStand : FnScope nCS ["text", "names", "at"] (defScope sCanStand) := ⟨rfl, rfl, rfl, by decide +kernel, rfl, by decide +kernel, by decide +kernel⟩
def cnCanStand : Con := fun rs μ r μ' => ∃ t rn ns at_, rs = [.dat t, rn, Ii at_] ∧ (isObj t = false ∧ M.smallT t ∧ NamesAt μ rn ns) ∧ r = Bb (M.canStand t ns at_) ∧ μ' = μ
theorem strs_flat (ns : List Str) : (ns.map PyData.str).all flatD = true := by
  rw [List.all_map, List.all_eq_true]
  exact fun _ _ => rfl
theorem cCanStand (C1 : Cal P w K mg base "read_round" 4 ["text"] cnReadRound) (D : Df K mg "can_stand" sCanStand) : Cal P w K mg base "can_stand" 5 ["text", "names", "at"] cnCanStand := by
  refine D.cal scCanStand (fun _ _ _ _ _ _ us hl => match us, hl with | [_, _, _], _ => rfl) (by decide) (fun rs μ r μ' h => by obtain ⟨_, _, _, _, _, _, _, rfl⟩ := h; rfl) fun f cdv A outer s0 H E hr rs μ r μ' hC => ?_
  obtain ⟨t, rn, ns, at_, rfl, ⟨hob, ht, hn⟩, rfl, rfl⟩ := hC
  refine ST.set (i := 3) (EV.call C1 hr (AV.cons (nm 0) AV.nil) ⟨t, rfl, ⟨hob, ht⟩, rfl, rfl⟩) scCanStand.nd rfl (Or.inl rfl) ?_
  rcases M.readRound_cases t with q | ⟨cs, q, hw⟩
  · have e : M.canStand t ns at_ = false := by
      unfold M.canStand
      rw [q]
    rw [q, e]
    exact ST.ifYes (tIsN (nm 3)) rfl (ST.retP EV.bl rfl)
  · have e : M.canStand t ns at_ = cs.all (M.clauseStands ns at_) := by
      unfold M.canStand
      rw [q]
    rw [q, e]
    refine ST.ifNo (tIsN (nm 3)) rfl ?_
    refine ST.for_ (is := [4, 5, 6, 7]) (IV.tup (nm 3)) (fun i ρ ν => (∃ a b c d g, ρ = [some (.dat t), some rn, some (Ii at_), some (Tp cs), a, b, c, d, g]) ∧ ν = μ' ∧ (cs.take i).all (M.clauseStands ns at_) = true) ⟨⟨_, _, _, _, _, rfl⟩, rfl, by simp⟩ (fun i c ρ ν hc hI => ?_) (fun ρ ν hI => ?_)
    · obtain ⟨⟨a, b, c0, d0, g, rfl⟩, rfl, hp⟩ := hI
      obtain ⟨deed, e0, d, more, rfl, h1, h2, h3, hd, hm⟩ := hw c (List.mem_iff_getElem?.mpr ⟨i, hc⟩)
      have hfm : flatD more = true := by rcases hm with ⟨i, rfl⟩ | ⟨s, rfl, _⟩ <;> rfl
      refine ⟨_, GV.tup (GsV.cons (GV.name (i := 4) scCanStand.nd rfl (Or.inl rfl) (by simp)) (GsV.cons (GV.name (i := 5) scCanStand.nd rfl (Or.inl rfl) (by simp)) (GsV.cons (GV.name (i := 6) scCanStand.nd rfl (Or.inl rfl) (by simp)) (GsV.cons (GV.name (i := 7) scCanStand.nd rfl (Or.inl rfl) (by simp)) GsV.nil)))), ?_⟩
      refine ST.set (i := 8) (r := Ii (if d == 1 then at_ + 1 else 0)) (EV.ifx (tEq (nm 6) EV.int) (fun hk => EV.eq (oAdd (nm 2) EV.int) (by have hk' : (d == 1) = true := hk; rw [if_pos hk'])) (fun hk => EV.eq EV.int (by have hk' : (d == 1) = false := hk; rw [if_neg (by rw [hk']; exact Bool.false_ne_true)]))) scCanStand.nd rfl (Or.inl rfl) ?_
      have step : (cs.take (i + 1)).all (M.clauseStands ns at_) = M.clauseStands ns at_ (.tuple [.str deed, .int e0, .int d, more]) := by
        rw [List.take_succ, hc]
        simp [hp]
      have hcl : M.clauseStands ns at_ (.tuple [.str deed, .int e0, .int d, more]) = !(deed == "call" && !inD more ((M.cutL ns (some (if d == 1 then at_ + 1 else 0)) none).map .str)) := rfl
      refine ST.iff (WV.tv (WV.andP (tEq (nm 4) EV.str) (WV.and1 (k := !inD more ((M.cutL ns (some (if d == 1 then at_ + 1 else 0)) none).map .str)) ?_))) (fun hk => ?_) (fun hk => ?_)
      · rcases hn with ⟨kk, rfl, hkk⟩ | rfl
        · exact tNiL (nm 7) (EV.eq (EV.slC (nm 1) (PartV.some (nm 8)) PartV.none hkk) (congrArg Ls (M.cutD_map _ _ _ _))) hfm (strs_flat _)
        · exact tNiT (nm 7) (EV.eq (EV.slT (nm 1) (PartV.some (nm 8)) PartV.none) (congrArg Tp (M.cutD_map _ _ _ _))) hfm (strs_flat _)
      · have hk' : (deed == "call" && !inD more ((M.cutL ns (some (if d == 1 then at_ + 1 else 0)) none).map .str)) = true := hk
        refine ST.ret EV.bl ⟨?_, by simp⟩
        have : cs.all (M.clauseStands ns at_) = false := by
          rw [List.all_eq_false]
          exact ⟨_, List.mem_iff_getElem?.mpr ⟨i, hc⟩, by rw [hcl, hk']; simp⟩
        rw [this]
        rfl
      · have hk' : (deed == "call" && !inD more ((M.cutL ns (some (if d == 1 then at_ + 1 else 0)) none).map .str)) = false := hk
        exact ST.nil (ST.nil ⟨⟨_, _, _, _, _, rfl⟩, rfl, by rw [step, hcl, hk']; rfl⟩)
    · obtain ⟨⟨a, b, c0, d0, g, rfl⟩, rfl, hp⟩ := hI
      rw [List.take_length] at hp
      rw [hp]
      exact ST.retP EV.bl rfl

theorem scAreRounds : FnScope ["value", "text"] ["value"] (defScope sAreRounds) := ⟨rfl, rfl, rfl, by decide +kernel, rfl, by decide +kernel, by decide +kernel⟩
def cnAreRounds : Con := fn1 (fun d => nob d = true ∧ M.smallR d) fun d => .bool (M.areRounds d)
theorem cAreRounds (T : Gf mg) (C1 : Cal P w K mg base "read_round" 4 ["text"] cnReadRound) (D : Df K mg "are_rounds" sAreRounds) : Cal P w K mg base "are_rounds" 5 ["value"] cnAreRounds := by
  refine D.cal scAreRounds (fun _ _ _ _ _ _ us hl => match us, hl with | [_], _ => rfl) (by decide) (fun rs μ r μ' h => by obtain ⟨_, _, _, _, rfl⟩ := h; rfl) fun f cdv A outer s0 H E hr rs μ r μ' hC => ?_
  obtain ⟨d, rfl, ⟨hnb, hs⟩, rfl, rfl⟩ := hC
  have hob := nob_isObj hnb
  cases hd : isTupleL d with
  | false =>
    refine ST.ifYes (WV.tv (WV.orT (TV.not (TV.val (isI T.bt (nm 0) (kit_tuple d) (by decide +kernel) T.bt.tuple))) (by rw [hd]; rfl))) rfl (ST.retP EV.bl ?_)
    cases d <;> first | rfl | cases hd
  | true =>
    obtain ⟨ds, rfl⟩ : ∃ ds, d = .tuple ds := by cases d <;> first | exact ⟨_, rfl⟩ | cases hd
    refine ST.ifR (WV.tv (WV.orF (TV.not (TV.val (isI T.bt (nm 0) (kit_tuple _) (by decide +kernel) T.bt.tuple))) (WV.or1 (TV.not (tChainLe op_le op_le EV.int (bLenT T.bt (nm 0)) (gI T.mrounds)))))) (fun hk => ?_) (fun hk => ?_)
    · refine ST.retP EV.bl ?_
      have : M.areRounds (.tuple ds) = false := by
        simp only [Bool.not_eq_true'] at hk
        show ((decide (1 ≤ (ds.length : Int)) && decide ((ds.length : Int) ≤ 5)) && ds.all fun x => !isNone (M.readRound x)) = false
        rw [hk, Bool.false_and]
      exact congrArg (fun b => Bb b) this.symm
    · simp only [Bool.not_eq_false'] at hk
      have h5 : ds.length ≤ 5 := by
        rw [Bool.and_eq_true, decide_eq_true_eq, decide_eq_true_eq] at hk
        omega
      refine ST.retP (bAll (bs := ds.map fun x => !isNone (M.readRound x)) T.bt rfl (EV.eq (LCV.evf (own := [("text", 1)]) (LCV.map (fun x => .bool (!isNone (M.readRound x))) (IV.tup (nm 0)) (fun x hx => ?_) (by omega)) rfl scAreRounds.nd (blkOk_by (N := ["value", "text"]) (sc := defScope sAreRounds) (by decide +kernel))).ev ?_)) ?_
      · exact ⟨_, fun _ _ _ _ _ => GV.name (i := 1) scAreRounds.nd rfl (Or.inl rfl) (by simp), fun _ _ _ _ _ => cNotN (EV.call C1 hr (AV.cons (nm 1) AV.nil) ⟨x, rfl, ⟨nob_isObj (nob_tup hnb x hx), hs ds rfl x hx⟩, rfl, rfl⟩)⟩
      · rw [List.map_map]
        rfl
      · have : M.areRounds (.tuple ds) = (ds.map fun x => !isNone (M.readRound x)).all id := by
          show ((decide (1 ≤ (ds.length : Int)) && decide ((ds.length : Int) ≤ 5)) && ds.all fun x => !isNone (M.readRound x)) = _
          rw [hk, Bool.true_and, List.all_map]
          rfl
        exact congrArg (fun b => Bb b) this.symm
abbrev nIP : List Str := ["value", "name", "goal", "base", "rounds"]
theorem scIsPlan : FnScope nIP ["value"] (defScope sIsPlan) := ⟨rfl, rfl, rfl, by decide +kernel, rfl, by decide +kernel, by decide +kernel⟩
def cnIsPlan : Con := fn1 (fun d => nob d = true ∧ M.smallP d) fun d => .bool (M.isPlan d)
theorem cIsPlan (T : Gf mg) (C1 : Cal P w K mg base "is_integer" 1 ["value"] (fn1 (fun d => isObj d = false) fun d => .bool (M.isInteger d)))
    (C2 : Cal P w K mg base "is_name" 1 ["value"] (fn1 (fun d => isObj d = false ∧ ∀ s, d = .str s → s.length ≤ 1000000) fun d => .bool (M.isName d))) (C3 : Cal P w K mg base "is_goal" 1 ["value"] (fn1 (fun d => isObj d = false) fun d => .bool (M.isGoal d)))
    (C4 : Cal P w K mg base "are_rounds" 5 ["value"] cnAreRounds) (D : Df K mg "is_plan" sIsPlan) : Cal P w K mg base "is_plan" 6 ["value"] cnIsPlan := by
  refine D.cal scIsPlan (fun _ _ _ _ _ _ us hl => match us, hl with | [_], _ => rfl) (by decide) (fun rs μ r μ' h => by obtain ⟨_, _, _, _, rfl⟩ := h; rfl) fun f cdv A outer s0 H E hr rs μ r μ' hC => ?_
  obtain ⟨d, rfl, ⟨hnb, hs⟩, rfl, rfl⟩ := hC
  have hob := nob_isObj hnb
  have hr1 := hr.mono (show 1 ≤ 5 by decide)
  show ST _ _ _ _ _ _ (PostR (Bb (M.isPlan d)) _)
  by_cases h4 : ∃ n g b rr, d = .tuple [n, g, b, rr]
  · obtain ⟨n, g, b, rr, rfl⟩ := h4
    obtain ⟨sn, sr⟩ := hs n g b rr rfl
    have nbn := nob_tup hnb n (by simp)
    have nbg := nob_isObj (nob_tup hnb g (by simp))
    have nbb := nob_isObj (nob_tup hnb b (by simp))
    have nbr := nob_tup hnb rr (by simp)
    refine ST.ifNo (WV.tv (WV.orF (TV.not (TV.val (isI T.bt (nm 0) (kit_tuple _) (by decide +kernel) T.bt.tuple))) (WV.or1 (tNe (bLenT T.bt (nm 0)) EV.int)))) rfl ?_
    refine ST.asg (is := [1, 2, 3, 4]) (nm 0) (GV.tup (GsV.cons (GV.name (i := 1) scIsPlan.nd rfl (Or.inl rfl) (by simp)) (GsV.cons (GV.name (i := 2) scIsPlan.nd rfl (Or.inl rfl) (by simp)) (GsV.cons (GV.name (i := 3) scIsPlan.nd rfl (Or.inl rfl) (by simp)) (GsV.cons (GV.name (i := 4) scIsPlan.nd rfl (Or.inl rfl) (by simp)) GsV.nil))))) ?_
    have e0 : M.isPlan (.tuple [n, g, b, rr]) = (M.baseOk b && (M.isName n && (M.isGoal g && M.areRounds rr))) := rfl
    rw [e0]
    cases hb : M.isInteger b with
    | false =>
      have : M.baseOk b = false := by cases b <;> first | rfl | cases hb
      rw [this, Bool.false_and]
      exact ST.ifYes (WV.tv (WV.orT (TV.not (TV.val (EV.call C1 hr1 (AV.cons (nm 3) AV.nil) ⟨b, rfl, nbb, rfl, rfl⟩))) (by rw [hb]; rfl))) rfl (ST.retP EV.bl rfl)
    | true =>
      obtain ⟨i, rfl⟩ : ∃ i, b = .int i := by cases b <;> first | exact ⟨_, rfl⟩ | cases hb
      refine ST.ifR (WV.tv (WV.orF (TV.not (TV.val (EV.call C1 hr1 (AV.cons (nm 3) AV.nil) ⟨_, rfl, rfl, rfl, rfl⟩))) (WV.or1 (TV.not (tChainLe op_le op_le EV.int (nm 3) (gI T.mbase)))))) (fun hk => ?_) (fun hk => ?_)
      · have : M.baseOk (.int i) = false := by
          simp only [Bool.not_eq_true'] at hk
          exact hk
        rw [this, Bool.false_and]
        exact ST.retP EV.bl rfl
      · have : M.baseOk (.int i) = true := by
          simp only [Bool.not_eq_false'] at hk
          exact hk
        rw [this, Bool.true_and]
        exact ST.retP (EV.andD (EV.call C2 hr1 (AV.cons (nm 1) AV.nil) ⟨n, rfl, ⟨nob_isObj nbn, fun s h => Nat.le_trans (sn s h) (by decide)⟩, rfl, rfl⟩) fun _ => EV.andD (EV.call C3 hr1 (AV.cons (nm 2) AV.nil) ⟨g, rfl, nbg, rfl, rfl⟩) fun _ => EV.one (EV.call C4 hr (AV.cons (nm 4) AV.nil) ⟨rr, rfl, ⟨nbr, sr⟩, rfl, rfl⟩)) rfl
  · have : M.isPlan d = false := by
      unfold M.isPlan
      split
      · exact absurd ⟨_, _, _, _, rfl⟩ h4
      · rfl
    rw [this]
    cases hd : isTupleL d with
    | false =>
      exact ST.ifYes (WV.tv (WV.orT (TV.not (TV.val (isI T.bt (nm 0) (kit_tuple d) (by decide +kernel) T.bt.tuple))) (by rw [hd]; rfl))) rfl (ST.retP EV.bl rfl)
    | true =>
      obtain ⟨ds, rfl⟩ : ∃ ds, d = .tuple ds := by cases d <;> first | exact ⟨_, rfl⟩ | cases hd
      have hl : ds.length ≠ 4 := fun z => by
        match ds, z with
        | [a, b, c, e], _ => exact h4 ⟨_, _, _, _, rfl⟩
      exact ST.ifYes (WV.tv (WV.orF (TV.not (TV.val (isI T.bt (nm 0) (kit_tuple _) (by decide +kernel) T.bt.tuple))) (WV.or1 (tNe (bLenT T.bt (nm 0)) EV.int)))) (by simp [eqS]; omega) (ST.retP EV.bl rfl)

abbrev nCP : List Str := ["plans", "names", "at", "plan", "text"]
theorem scCheckPlans : FnScope nCP ["plans"] (defScope sCheckPlans) := ⟨rfl, rfl, rfl, by decide +kernel, rfl, by decide +kernel, by decide +kernel⟩
/-- for good plans nothing is raised -/
def cnCheckPlans : Con := fun rs μ r μ' => ∃ ps, rs = [Tp ps] ∧ M.Good ps ∧ r = Nn ∧ μ' = μ
theorem plan_name {p : PyData} (h : M.isPlan p = true) : ∃ rest, p = .tuple (.str (M.nameOf p) :: rest) := by
  obtain ⟨n, g, b, rs, rfl, _⟩ := M.plan_shape h
  exact ⟨_, rfl⟩
theorem inD_strs (n : Str) (ns : List Str) : inD (.str n) (ns.map .str) = decide (n ∈ ns) := by
  induction ns with
  | nil => simp [inD]
  | cons m ns ih =>
    have : inD (.str n) ((m :: ns).map .str) = ((m == n) || inD (.str n) (ns.map .str)) := rfl
    rw [this, ih]
    by_cases h : n = m
    · simp [h]
    · have h2 : ¬ m = n := fun z => h z.symm
      simp [h, h2]
theorem cCheckPlans (T : Gf mg) (C1 : Cal P w K mg base "is_plan" 6 ["value"] cnIsPlan) (C2 : Cal P w K mg base "can_stand" 5 ["text", "names", "at"] cnCanStand) (D : Df K mg "check_plans" sCheckPlans) : Cal P w K mg base "check_plans" 7 ["plans"] cnCheckPlans := by
  refine D.calN scCheckPlans (fun _ _ _ _ _ _ us hl => match us, hl with | [_], _ => rfl) (by decide) (fun rs μ r μ' h => by obtain ⟨_, _, _, _, rfl⟩ := h; rfl) fun f cdv A outer s0 H E hr rs μ r μ' hC => ?_
  obtain ⟨ps, rfl, G, rfl, rfl⟩ := hC
  have hlen : (((ps.length : Nat) : Int) == 0) = false := by
    have := G.ge1
    exact beq_eq_false_iff_ne.mpr (by omega)
  refine ST.ifNo (WV.tv (WV.orF (TV.not (TV.val (isI T.bt (nm 0) (kit_tuple _) (by decide +kernel) T.bt.tuple))) (WV.or1 (tEq (bLenT T.bt (nm 0)) EV.int)))) hlen ?_
  refine ST.cell (i := 1) (EVF.lst (ds := []) AV.nil) scCheckPlans.nd rfl (Or.inr rfl) ?_
  refine ST.for_ (is := [2, 3]) (IV.enumT (nm 0) T.bt.enumerate) (fun i ρ ν => (∃ a b c, ρ = [some (Tp ps), some (.ptr μ'.length), a, b, c]) ∧ ν = μ' ++ [((ps.take i).map M.nameOf).map .str]) ⟨⟨_, _, _, rfl⟩, by simp⟩ (fun i d ρ ν hd hI => ?_) (fun ρ ν hI => ?_)
  · obtain ⟨⟨a, b, c, rfl⟩, rfl⟩ := hI
    obtain ⟨p, hp, rfl⟩ := enD_get hd
    have hpm : p ∈ ps := List.mem_iff_getElem?.mpr ⟨i, hp⟩
    obtain ⟨h1, h2⟩ := G.each p hpm
    obtain ⟨rest, hpe⟩ := plan_name h1
    have hil : i < ps.length := (List.getElem?_eq_some_iff.mp hp).1
    have hi4 : ((((0 + i : Nat)) : Int) == 4) = false := by
      have := G.le4
      simp
      omega
    have hcell : (μ' ++ [((ps.take i).map M.nameOf).map PyData.str])[μ'.length]? = some (((ps.take i).map M.nameOf).map .str) := by simp
    have hat : ∀ q, p = .tuple (.str (M.nameOf p) :: q) → (.dat p : Ent) = Tp (.str (M.nameOf p) :: q) := fun q z => congrArg Ent.dat z
    have hnew : inD (.str (M.nameOf p)) (((ps.take i).map M.nameOf).map .str) = false := by
      rw [inD_strs]
      refine decide_eq_false fun z => ?_
      obtain ⟨q, hq, e⟩ := List.mem_map.mp z
      obtain ⟨j, hj, ej⟩ := List.mem_take_iff_getElem.mp hq
      have hnd := G.nd
      have := List.pairwise_iff_getElem.mp hnd j i (by simp; omega) (by simp; omega) (by omega)
      have e1 : ps[i] = p := by
        have := (List.getElem?_eq_some_iff.mp hp).2
        exact this
      apply this
      rw [List.getElem_map, List.getElem_map, e1, ej, e]
    refine ⟨_, GV.tup (GsV.cons (GV.name (i := 2) scCheckPlans.nd rfl (by first | exact Or.inl rfl | exact Or.inr rfl) (by simp)) (GsV.cons (GV.name (i := 3) scCheckPlans.nd rfl (by first | exact Or.inl rfl | exact Or.inr rfl) (by simp)) GsV.nil)), ?_⟩
    have ev0 : ∀ {X : Cx} {ρ : REnv} {μ : Sto} {e : Expr}, EV X e ρ μ (.dat p) μ → EV X e ρ μ (Tp (.str (M.nameOf p) :: rest)) μ := fun h => EV.eq h (hat rest hpe)
    refine ST.ifNo (WV.tv (WV.orF (tEq (nm 2) (gI T.mplans)) (WV.orF (TV.not (TV.val (EV.call C1 hr (AV.cons (nm 3) AV.nil) ⟨p, rfl, ⟨M.plan_nob h1, h2⟩, rfl, rfl⟩))) (WV.or1 (tInC (ixT (ev0 (nm 3)) EV.int (at_nat (i := 0) rfl)) (nm 1) hcell rfl (strs_flat _))) (by rw [h1]; rfl)) (by exact hi4))) hnew ?_
    refine ST.expr (EV.app (nm 1) (ixT (ev0 (nm 3)) EV.int (at_nat (i := 0) rfl)) hcell (by have := G.le4; simp; omega)) (ST.nil ⟨⟨_, _, _, rfl⟩, ?_⟩)
    rw [List.take_succ, hp]
    simp
  · obtain ⟨⟨a, b, c, rfl⟩, rfl⟩ := hI
    rw [enD_len, List.take_length]
    have hcell : (μ' ++ [(ps.map M.nameOf).map PyData.str])[μ'.length]? = some ((ps.map M.nameOf).map .str) := by simp
    refine ST.for_ (is := [2, 3]) (IV.enumT (nm 0) T.bt.enumerate) (fun i ρ ν => (∃ a b c, ρ = [some (Tp ps), some (.ptr μ'.length), a, b, c]) ∧ ν = μ' ++ [(ps.map M.nameOf).map .str]) ⟨⟨_, _, _, rfl⟩, rfl⟩ (fun i d ρ ν hd hI => ?_) (fun ρ ν hI => ?_)
    · obtain ⟨⟨a, b, c, rfl⟩, rfl⟩ := hI
      obtain ⟨p, hp, rfl⟩ := enD_get hd
      have hpm : p ∈ ps := List.mem_iff_getElem?.mpr ⟨i, hp⟩
      obtain ⟨h1, h2⟩ := G.each p hpm
      have hst := G.stand i p hp
      obtain ⟨n, g, bb, rs, rfl, _, _, _, _, hrs⟩ := M.plan_shape h1
      have hrl : rs.length ≤ 5 := by
        unfold M.areRounds at hrs
        rw [Bool.and_eq_true, Bool.and_eq_true, decide_eq_true_eq, decide_eq_true_eq] at hrs
        omega
      refine ⟨_, GV.tup (GsV.cons (GV.name (i := 2) scCheckPlans.nd rfl (by first | exact Or.inl rfl | exact Or.inr rfl) (by simp)) (GsV.cons (GV.name (i := 3) scCheckPlans.nd rfl (by first | exact Or.inl rfl | exact Or.inr rfl) (by simp)) GsV.nil)), ?_⟩
      refine ST.ifNo (TV.not (TV.val (bAll (bs := rs.map fun _ => true) T.bt rfl (EV.eq (LCV.evf (own := [("text", 4)]) (LCV.map (fun _ => .bool true) (IV.tup (ixT (nm 3) EV.int (at_nat (i := 3) rfl))) (fun t ht => ?_) (by omega)) rfl scCheckPlans.nd (blkOk_by (N := nCP) (sc := defScope sCheckPlans) (by decide +kernel))).ev ?_)))) ?_ (ST.nil ⟨⟨_, _, _, rfl⟩, rfl⟩)
      · refine ⟨_, fun _ _ _ _ _ => GV.name (i := 4) scCheckPlans.nd rfl (Or.inl rfl) (by simp), fun _ _ _ _ _ => ?_⟩
        have := hst t ht
        have e : ((0 + i : Nat) : Int) = (i : Int) := by omega
        exact EV.eq (EV.call C2 (hr.mono (by decide)) (AV.cons (nm 4) (AV.cons (nm 1) (AV.cons (nm 2) AV.nil))) ⟨t, _, ps.map M.nameOf, _, rfl, ⟨(by obtain ⟨s, rfl⟩ := M.rounds_str hrs t ht; rfl), (h2 _ _ _ _ rfl).2 rs rfl t ht, .inl ⟨_, rfl, hcell⟩⟩, rfl, rfl⟩) (by rw [e, this])
      · rw [List.map_map]
        rfl
      · rw [List.all_map]
        simp
    · obtain ⟨⟨a, b, c, rfl⟩, rfl⟩ := hI
      exact ST.nil ⟨rfl, _, rfl⟩
end
end J
/-! P5: books. -/
namespace M
open PySem J L2
variable [KC]
def headText (n g : Str) (b : Int) : Str := catS Str.empty ["plan ", n, " ", g, " base ", strI b]
def strOf : PyData → Str
  | .str s => s
  | _ => Str.empty
def planText : PyData → Str
  | .tuple [.str n, .str g, .int b, .tuple rs] => Txt.join "\n" (headText n g b :: rs.map strOf)
  | _ => Str.empty
def bookText (ps : List PyData) : Str := Txt.join "\n" (ps.map planText)
def bookShown (ps : List PyData) : Str := catS Str.empty ["Book of ", strI ps.length, " plans"]
end M
namespace J
open PySem PySem.Spec
open PyProof.Rows L2
variable [KC]
/-- what a class is for us -/
structure Kl (K : PySem.W.Frag) (C : Addr) : Prop where
  cl : Cls K C
  nK : NoAttr K C "kept"
abbrev bookE (C : Addr) (ps : List PyData) : Ent := .obj C [("kept", .tuple ps)]
section
variable {w : World} {P : Program} {K : PySem.W.Frag} {base : Heap} {mg : Str → Option Value} {C : Addr}
theorem fit_of : ∀ (ss : List Str) (acc : Str), acc.length + (ss.map (·.length)).sum ≤ sizeLine → fitS acc ss
  | [], _, _ => trivial
  | s :: ss, acc, h => by
    rw [List.map_cons, List.sum_cons] at h
    have e : (acc ++ s).length = acc.length + s.length := strLen_append acc s
    exact ⟨by omega, fit_of ss (acc ++ s) (by omega)⟩
theorem cat_len : ∀ (ss : List Str) (acc : Str), (catS acc ss).length = acc.length + (ss.map (·.length)).sum
  | [], acc => by simp [catS]
  | s :: ss, acc => by
    rw [catS, cat_len ss, strLen_append, List.map_cons, List.sum_cons]
    omega
theorem strI_len (i : Int) (h0 : 0 ≤ i) (h9 : i ≤ 9) : (M.strI i).length = 1 := by
  have := (M.dig_text i.toNat (by omega)).2.2
  rwa [show ((i.toNat : Nat) : Int) = i by omega] at this
theorem goal_len {g : Str} (h : M.isGoal (.str g) = true) : g.length ≤ 6 := by
  have h2 : inD (.str g) ([.str "all", .str "before"] ++ M.lasts) = true := h
  have h3 : g = "all" ∨ g = "before" ∨ g = "last 1" ∨ g = "last 2" ∨ g = "last 3" ∨ g = "last 4" := by
    have e : ([PyData.str "all", .str "before"] ++ M.lasts) = (["all", "before", "last 1", "last 2", "last 3", "last 4"] : List Str).map .str := rfl
    rw [e, inD_strs] at h2
    simpa using h2
  rcases h3 with rfl | rfl | rfl | rfl | rfl | rfl <;> decide +kernel
theorem rounds_strs {rs : List PyData} (h : M.areRounds (.tuple rs) = true) : rs.length ≤ 5 ∧ ∀ x ∈ rs, ∃ s, x = .str s := by
  have h2 : ((decide (1 ≤ (rs.length : Int)) && decide ((rs.length : Int) ≤ 5)) && rs.all fun x => !isNone (M.readRound x)) = true := h
  rw [Bool.and_eq_true, Bool.and_eq_true, decide_eq_true_eq, decide_eq_true_eq, List.all_eq_true] at h2
  refine ⟨by omega, fun x hx => ?_⟩
  have := h2.2 x hx
  cases x <;> first | exact ⟨_, rfl⟩ | cases this
theorem strs_of {rs : List PyData} (h : ∀ x ∈ rs, ∃ s, x = .str s) : rs = (rs.map M.strOf).map .str := by
  rw [List.map_map]
  have : rs.map (PyData.str ∘ M.strOf) = rs.map id := List.map_congr_left fun x hx => by
    obtain ⟨s, rfl⟩ := h x hx
    rfl
  rw [this, List.map_id]
abbrev nPT : List Str := ["plan", "name", "goal", "base", "rounds"]
theorem scPlanText : FnScope nPT ["plan"] (defScope sPlanText) := ⟨rfl, rfl, rfl, by decide +kernel, rfl, by decide +kernel, by decide +kernel⟩
def cnPlanText : Con := fn1 (fun p => M.isPlan p = true ∧ M.smallP p) fun p => .str (M.planText p)
theorem sum_le {α : Type} (f : α → Nat) (m : Nat) : ∀ (l : List α), (∀ x ∈ l, f x ≤ m) → (l.map f).sum ≤ l.length * m
  | [], _ => by simp
  | x :: l, h => by
    have h1 := h x List.mem_cons_self
    have h2 := sum_le f m l fun y hy => h y (List.mem_cons_of_mem _ hy)
    rw [List.map_cons, List.sum_cons, List.length_cons, Nat.add_mul]
    omega
theorem head_len {n g : Str} {b : Int} (hn : M.nameOk n = true) (hg : M.isGoal (.str g) = true) (b1 : 1 ≤ b) (b4 : b ≤ 4) : (M.headText n g b).length ≤ 30 := by
  have h1 := (M.name_signs hn).2.1
  have h2 := goal_len hg
  have h3 := strI_len b (by omega) (by omega)
  unfold M.headText
  rw [cat_len]
  have e1 : ((("plan " : String) : Str)).length = 5 := by decide +kernel
  have e2 : (((" " : String) : Str)).length = 1 := by decide +kernel
  have e3 : (((" base " : String) : Str)).length = 6 := by decide +kernel
  have e4 : (Str.empty).length = 0 := by decide +kernel
  simp only [List.map_cons, List.map_nil, List.sum_cons, List.sum_nil]
  omega
theorem cPlanText (D : Df K mg "plan_text" sPlanText) : Cal P w K mg base "plan_text" 1 ["plan"] cnPlanText := by
  refine D.cal scPlanText (fun _ _ _ _ _ _ us hl => match us, hl with | [_], _ => rfl) (by decide) (fun rs μ r μ' h => by obtain ⟨_, _, _, _, rfl⟩ := h; rfl) fun f cdv A outer s0 H E hr rs μ r μ' hC => ?_
  obtain ⟨d, rfl, ⟨hp, hsm⟩, rfl, rfl⟩ := hC
  obtain ⟨n, g, b, rr, rfl, hn, hg, b1, b4, hrr⟩ := M.plan_shape hp
  obtain ⟨h5, hst⟩ := rounds_strs hrr
  have hl := head_len hn hg b1 b4
  refine ST.asg (is := [1, 2, 3, 4]) (nm 0) (GV.tup (GsV.cons (GV.name (i := 1) scPlanText.nd rfl (Or.inl rfl) (by simp)) (GsV.cons (GV.name (i := 2) scPlanText.nd rfl (Or.inl rfl) (by simp)) (GsV.cons (GV.name (i := 3) scPlanText.nd rfl (Or.inl rfl) (by simp)) (GsV.cons (GV.name (i := 4) scPlanText.nd rfl (Or.inl rfl) (by simp)) GsV.nil))))) ?_
  have hfit : fitS Str.empty ["plan ", n, " ", g, " base ", M.strI b] := by
    refine fit_of _ _ ?_
    have := cat_len ["plan ", n, " ", g, " base ", M.strI b] Str.empty
    rw [← this]
    exact sz (Nat.le_trans hl (by decide))
  have hn8 := (M.name_signs hn).2.1
  have hg6 := goal_len hg
  have ers := strs_of hst
  have hsum : ((M.headText n g b :: rr.map M.strOf).map (·.length)).sum + (M.headText n g b :: rr.map M.strOf).length * ((("\n" : String) : Str)).length ≤ 16777216 := by
    have h1 : ((rr.map M.strOf).map (·.length)).sum ≤ (rr.map M.strOf).length * 99990 := sum_le _ _ _ fun x hx => by
      obtain ⟨y, hy, rfl⟩ := List.mem_map.mp hx
      obtain ⟨s, rfl⟩ := hst y hy
      exact (hsm _ _ _ _ rfl).2 rr rfl _ hy s rfl
    have e1 : ((("\n" : String) : Str)).length = 1 := by decide +kernel
    rw [List.map_cons, List.sum_cons, e1, List.length_cons]
    rw [List.length_map] at h1 ⊢
    have : rr.length * 99990 ≤ 5 * 99990 := Nat.mul_le_mul_right _ h5
    omega
  refine ST.retP (EV.join (ys := M.headText n g b :: rr.map M.strOf) EV.str (EV.eq (EV.lst (ds := .str (M.headText n g b) :: rr) (AV.cons (EV.joined (JV.cons EV.str (JV.cons (EV.fmtS (nm 1) (sz (by omega))) (JV.cons EV.str (JV.cons (EV.fmtS (nm 2) (sz (by omega))) (JV.cons EV.str (JV.cons (EV.fmtI (nm 3) (log_small (by omega))) JV.nil)))))) hfit) (by
      have : dats (.str (M.headText n g b) :: rr) = .dat (.str (M.headText n g b)) :: (dats rr ++ []) := by rw [List.append_nil]; rfl
      exact (List.append_nil (dats rr)) ▸ AV.star (nm 4) AV.nil)) (by simp; omega)) (by rw [List.map_cons, ← ers])) hsum) rfl

theorem scInit : FnScope ["self", "plans"] ["self", "plans"] (defScope sInit) := ⟨rfl, rfl, rfl, by decide +kernel, rfl, by decide +kernel, by decide +kernel⟩
theorem okInit {f : Addr} {fd : FuncData} (F : Fun K "__init__" "Book.__init__" sInit f fd) (B : Kl K C) (C1 : Cal P w K mg base "check_plans" 7 ["plans"] cnCheckPlans) : FnOk P w K mg base CX0 8 f fd ["self", "plans"] (spInit K C "kept" M.Good) := by
  refine F.ok scInit (fun vs H Q E h => ?_) (fun cdv A outer s H vs Q E hr h => ?_)
  · obtain ⟨x, dx, v, w, μ, ps, rfl, _⟩ := h
    rfl
  · obtain ⟨x, dx, v, w0, μ, ps, rfl, hx, hxa, m, hv, G, k⟩ := h
    refine ⟨_, pss_cons (ps_expr p_ex) (pss_one (ps_fld (pv 0) (pv 1) rfl)), ?_⟩
    have sl : Sl K H w0 (L2.start ["self", "plans"] [.ref x, v]) [none, some (Tp ps)] := by
      refine ⟨rfl, fun i r hi => ?_⟩
      match i, hi with
      | 0, hi => simp at hi
      | 1, hi =>
        simp at hi
        subst hi
        exact ⟨v, rfl, hv⟩
      | i + 2, hi => simp at hi
    refine use_ev (ρ := [none, some (Tp ps)]) (r := Nn) (μ' := μ) (EV.call C1 hr (AV.cons (nm 1) AV.nil) ⟨ps, rfl, G, rfl, rfl⟩) m sl fun u H1 m1 f1 _ => ?_
    have hx1 : H1 x = some (.ins C dx []) := f1 x _ hx (m.out x hxa) (fun q z => by cases z)
    refine ⟨v, rfl, _, rfl, x, C, dx, [], rfl, hx1, B.cl, B.nK, by decide, ?_⟩
    exact k H1 m1 f1 (hv.fr f1)
theorem scSelf {st : Stmt} (h : FnScope ["self"] ["self"] (defScope st)) : FnScope ["self"] ["self"] (defScope st) := h
theorem scPlans : FnScope ["self"] ["self"] (defScope sPlans) := ⟨rfl, rfl, rfl, by decide +kernel, rfl, by decide +kernel, by decide +kernel⟩
def cnPlans (C : Addr) : Con := fun rs μ r μ' => ∃ ps, rs = [bookE C ps] ∧ True ∧ r = Tp ps ∧ μ' = μ
theorem okPlans {f : Addr} {fd : FuncData} (F : Fun K "plans" "Book.plans" sPlans f fd) (B : Kl K C) : FnOk P w K mg base CX0 1 f fd ["self"] (SpV K ["self"] (cnPlans C)) := by
  refine fn_mk F scPlans (by decide) (fun rs μ r μ' h => by obtain ⟨_, rfl, _, _, rfl⟩ := h; exact ⟨rfl, rfl⟩) fun cdv A outer s H E hr rs μ r μ' hC => ?_
  obtain ⟨ps, rfl, _, rfl, rfl⟩ := hC
  exact ST.retP (EV.fld (nm 0) B.cl B.nK rfl) rfl
theorem scNames : FnScope ["self", "plan"] ["self"] (defScope sNames) := ⟨rfl, rfl, rfl, by decide +kernel, rfl, by decide +kernel, by decide +kernel⟩
def cnNames (C : Addr) : Con := fun rs μ r μ' => ∃ ps, rs = [bookE C ps] ∧ M.Good ps ∧ r = Tp ((ps.map M.nameOf).map .str) ∧ μ' = μ
/-- the list that names makes -/
theorem lcNames {X : Cx} {μ : Sto} {ps : List PyData} (B : Kl X.K C) (G : M.Good ps) {elt tg iter : Expr} {scope : Scope} {rest : REnv}
    (h : LCV X elt tg iter [] scope [("plan", 1)] rest μ (ps.map fun p => .str (M.nameOf p)) μ) : LCV X elt tg iter [] scope [("plan", 1)] rest μ ((ps.map M.nameOf).map .str) μ := by
  rwa [List.map_map]
theorem okNames {f : Addr} {fd : FuncData} (T : Bt mg) (F : Fun K "names" "Book.names" sNames f fd) (B : Kl K C) : FnOk P w K mg base CX0 1 f fd ["self"] (SpV K ["self"] (cnNames C)) := by
  refine fn_mk F scNames (by decide) (fun rs μ r μ' h => by obtain ⟨_, rfl, _, _, rfl⟩ := h; exact ⟨rfl, rfl⟩) fun cdv A outer s H E hr rs μ r μ' hC => ?_
  obtain ⟨ps, rfl, G, rfl, rfl⟩ := hC
  refine ST.retP (bTupL T (EV.eq (LCV.evf (own := [("plan", 1)]) (LCV.map (fun p => .str (M.nameOf p)) (IV.tup (EV.fld (nm 0) B.cl B.nK rfl)) (fun p hp => ?_) (by have := G.le4; omega)) rfl scNames.nd (blkOk_by (N := ["self", "plan"]) (sc := defScope sNames) (by decide +kernel))).ev (congrArg Ls (by rw [List.map_map]; rfl)))) rfl
  obtain ⟨q, hq⟩ := plan_name (G.each p hp).1
  exact ⟨_, fun _ _ _ _ _ => GV.name (i := 1) scNames.nd rfl (Or.inl rfl) (by simp), fun _ _ _ _ _ => ixT (EV.eq (nm 1) (congrArg Ent.dat hq)) EV.int (at_nat (i := 0) rfl)⟩
/-- the same, the tuple known to the object -/
def spNamesF (K : PySem.W.Frag) (C : Addr) : Sp := fun vs H Q _ => ∃ w μ ps v, vs = [v] ∧ Mem K H w μ ∧ Val K H w v (bookE C ps) ∧ M.Good ps ∧
  ∀ l o H1, Mem K H1 w μ → Fr w.α H H1 → H1 l = none → o.cls = .type "tuple" → o.dict = none → Q (.ref l) (upd H1 l (.frz o (.tup ((ps.map M.nameOf).map .str))))
theorem okNamesF {f : Addr} {fd : FuncData} (T : Bt mg) (F : Fun K "names" "Book.names" sNames f fd) (B : Kl K C) : FnOk P w K mg base CX0 1 f fd ["self"] (spNamesF K C) := by
  refine F.ok scNames (fun vs H Q E h => ?_) (fun cdv A outer s H vs Q E hr h => ?_)
  · obtain ⟨w, μ, ps, v, rfl, _⟩ := h
    rfl
  · obtain ⟨w0, μ, ps, v, rfl, m, hv, G, k⟩ := h
    have sl : Sl K H w0 (L2.start ["self", "plan"] [v]) [some (bookE C ps), none] := sl_start (N := ["self", "plan"]) (rs := [bookE C ps]) (.cons hv .nil) (Nat.le_of_ble_eq_true rfl)
    refine ⟨_, pss_one (ps_ret (pe_callTy call_tupleF rfl T.tuple (by decide +kernel) (pa_cons p_ex pa_nil))), ?_⟩
    refine use_evf (ρ := [some (bookE C ps), none]) (xs := ps.map fun p => .str (M.nameOf p)) (μ' := μ) (LCV.evf (own := [("plan", 1)]) (LCV.map (fun p => .str (M.nameOf p)) (IV.tup (EV.fld (nm 0) B.cl B.nK rfl)) (fun p hp => ?_) (by have := G.le4; omega)) rfl scNames.nd (blkOk_by (N := ["self", "plan"]) (sc := defScope sNames) (by decide +kernel))) m sl fun p H1 us m1 f1 hp e1 hd => ?_
    · obtain ⟨q, hq⟩ := plan_name (G.each p hp).1
      exact ⟨_, fun _ _ _ _ _ => GV.name (i := 1) scNames.nd rfl (Or.inl rfl) (by simp), fun _ _ _ _ _ => ixT (EV.eq (nm 1) (congrArg Ent.dat hq)) EV.int (at_nat (i := 0) rfl)⟩
    have eus : us = ((ps.map M.nameOf).map V.str) := by
      have : DqAll (dl H1 (wk' w0 p).all) us ((ps.map M.nameOf).map .str) := by rwa [List.map_map]
      exact dqAll_strs' this
    subst eus
    exact ⟨p, _, rfl, SqL.of e1, fun l o hl hc hd => k l o H1 m1.unkeep f1 hl hc hd⟩

/-- self.names, its tuple known to the object -/
structure NmF (P : Program) (w : World) (K : PySem.W.Frag) (mg : Str → Option Value) (base : Heap) (C : Addr) : Prop where
  ex : ∃ p f fd, FnOk P w K mg base CX0 1 f fd ["self"] (spNamesF K C) ∧ PropOf K C "names" p f ∧ Binds K fd ["self"] []
theorem EV.nidx {X : Cx} {ρ : REnv} {μ : Sto} {o e : Expr} {ps : List PyData} {n : Str} {j : Nat} {p1 apos cpos : Pos} (hN : NmF X.prog X.w X.K X.mg X.base C) (B : Kl X.K C) (hr : Room 2 X.A) (ho : EV X o ρ μ (bookE C ps) μ) (he : EV X e ρ μ (Ss n) μ) (G : M.Good ps) (hj : (ps.map M.nameOf)[j]? = some n)
    (hb1 : attributeBase o "names" X.env (eval o X.env) = eval o X.env := by rfl) (hbase : attributeBase (.Attribute o "names" p1) "index" X.env (eval (.Attribute o "names" p1) X.env) = eval (.Attribute o "names" p1) X.env := by rfl)
    (hfew : ((backTo cpos (starEach [e] X.env)).all (fun x => !x.1) && (backToKw cpos (keywordEach [] X.env)).all (fun x => x.1.isSome) && decide ([e].length + ([] : List Keyword).length + (if ([] : List Keyword).isEmpty then 0 else 1) < 30)) = true := by rfl)
    (hline : (apos.endLine == cpos.line) = true := by rfl) (hs : starEach [e] X.env = (false, eval e X.env) :: starEach [] X.env := by rfl) (hp : (backTo cpos (starEach [] X.env)).any (·.1) = false := by rfl) : EV X (.Call (.Attribute (.Attribute o "names" p1) "index" apos) [e] [] cpos) ρ μ (Ii (j : Int)) μ := by
  intro w σ H m s Q q
  obtain ⟨pp, g, fd, F, po, bi⟩ := hN.ex
  refine ⟨_, pe_tix PySem.F.slot_tuple_index PySem.F.type_tuple_index mt_tup_index (pe_prop (E := E0) (p_ex (e := o)) B.cl po F hr bi .nil pass0 hb1) (p_ex (e := e)) hbase hfew hline hs hp, ?_⟩
  refine ho w σ H m s _ fun v H1 m1 f1 h1 => ?_
  have h1' := h1
  obtain ⟨x, dx, ws, rfl, hx, hn, hd⟩ := h1
  refine ⟨x, dx, ws, rfl, (dl_some hx).2, w, μ, ps, .ref x, rfl, m1, h1', G, fun l ob H2 m2 f2 hl hc hdd => ?_⟩
  have hS : Same H2 (upd H2 l (.frz ob (.tup ((ps.map M.nameOf).map .str)))) := Same.new hl
  refine ⟨⟨l, ob, _, rfl, upd_same, hc, hdd⟩, ?_⟩
  refine he w σ _ (m2.same hS) ((s.fr (f1.trans f2)).fr (Fr.of_same hS)) _ fun u H3 m3 f3 h3 => ?_
  cases h3
  have hla : l ∉ w.α := m2.fresh hl
  refine ⟨l, ps.map M.nameOf, n, j, rfl, rfl, .inl (.inr ⟨ob, f3 l _ upd_same hla (fun q z => by cases z)⟩), hj, fun k hk z => ?_, q _ H3 m3 (((f1.trans f2).trans (Fr.of_same hS)).trans f3) (Dq.int _)⟩
  obtain ⟨hk1, e1⟩ := List.getElem?_eq_some_iff.mp z
  obtain ⟨hj1, e2⟩ := List.getElem?_eq_some_iff.mp hj
  exact List.pairwise_iff_getElem.mp G.nd k j hk1 hj1 hk (by rw [e1, e2])
theorem scFindPlan : FnScope ["self", "name"] ["self", "name"] (defScope sFindPlan) := ⟨rfl, rfl, rfl, by decide +kernel, rfl, by decide +kernel, by decide +kernel⟩
def cnFindPlan (C : Addr) : Con := fun rs μ r μ' => ∃ ps n j, rs = [bookE C ps, Ss n] ∧ (M.Good ps ∧ (ps.map M.nameOf)[j]? = some n) ∧ r = Ii ((j : Nat) : Int) ∧ μ' = μ
theorem okFindPlan {f : Addr} {fd : FuncData} (T : Bt mg) (F : Fun K "find_plan" "Book.find_plan" sFindPlan f fd) (B : Kl K C) (N1 : Prp P w K mg base C "names" 1 (cnNames C)) (N2 : NmF P w K mg base C) : FnOk P w K mg base CX0 3 f fd ["self", "name"] (SpV K ["self", "name"] (cnFindPlan C)) := by
  refine fn_mk F scFindPlan (by decide) (fun rs μ r μ' h => by obtain ⟨_, _, _, rfl, _, _, rfl⟩ := h; exact ⟨rfl, rfl⟩) fun cdv A outer s H E hr rs μ r μ' hC => ?_
  obtain ⟨ps, n, j, rfl, ⟨G, hj⟩, rfl, rfl⟩ := hC
  have hin : inD (.str n) ((ps.map M.nameOf).map .str) = true := by
    rw [inD_strs]
    exact decide_eq_true (List.mem_iff_getElem?.mpr ⟨j, hj⟩)
  refine ST.ifNo (WV.tv (WV.orF (TV.not (TV.val (isI T (nm 1) (kit_str _) (by decide +kernel) T.str))) (WV.or1 (tNiT (nm 1) (EV.prop (nm 0) B.cl N1 hr ⟨ps, rfl, G, rfl, rfl⟩) rfl (strs_flat _))))) (by rw [hin]; rfl) ?_
  exact ST.retP (EV.nidx N2 B hr (nm 0) (nm 1) G hj) rfl
theorem scPlan : FnScope ["self", "name"] ["self", "name"] (defScope sPlan) := ⟨rfl, rfl, rfl, by decide +kernel, rfl, by decide +kernel, by decide +kernel⟩
def cnPlan (C : Addr) : Con := fun rs μ r μ' => ∃ (ps : List PyData) (n : Str) (j : Nat) (p : PyData), rs = [bookE C ps, Ss n] ∧ (M.Good ps ∧ (ps.map M.nameOf)[j]? = some n ∧ ps[j]? = some p) ∧ r = .dat p ∧ μ' = μ
theorem okPlan {f : Addr} {fd : FuncData} (F : Fun K "plan" "Book.plan" sPlan f fd) (B : Kl K C) (N1 : Mth P w K mg base C "find_plan" 3 ["self", "name"] (cnFindPlan C)) : FnOk P w K mg base CX0 4 f fd ["self", "name"] (SpV K ["self", "name"] (cnPlan C)) := by
  refine fn_mk F scPlan (by decide) (fun rs μ r μ' h => by obtain ⟨_, _, _, _, rfl, _, _, rfl⟩ := h; exact ⟨rfl, rfl⟩) fun cdv A outer s H E hr rs μ r μ' hC => ?_
  obtain ⟨ps, n, j, p, rfl, ⟨G, hj, hp⟩, rfl, rfl⟩ := hC
  exact ST.retP (ixT (EV.fld (nm 0) B.cl B.nK rfl) (EV.meth (nm 0) B.cl N1 hr rfl (AV.cons (nm 1) AV.nil) ⟨ps, n, j, rfl, ⟨G, hj⟩, rfl, rfl⟩) (at_nat hp)) rfl
theorem scRepr : FnScope ["self"] ["self"] (defScope sRepr) := ⟨rfl, rfl, rfl, by decide +kernel, rfl, by decide +kernel, by decide +kernel⟩
def cnRepr (C : Addr) : Con := fun rs μ r μ' => ∃ ps, rs = [bookE C ps] ∧ M.Good ps ∧ r = Ss (M.bookShown ps) ∧ μ' = μ
theorem okRepr {f : Addr} {fd : FuncData} (T : Bt mg) (F : Fun K "__repr__" "Book.__repr__" sRepr f fd) (B : Kl K C) : FnOk P w K mg base CX0 1 f fd ["self"] (SpV K ["self"] (cnRepr C)) := by
  refine fn_mk F scRepr (by decide) (fun rs μ r μ' h => by obtain ⟨_, rfl, _, _, rfl⟩ := h; exact ⟨rfl, rfl⟩) fun cdv A outer s H E hr rs μ r μ' hC => ?_
  obtain ⟨ps, rfl, G, rfl, rfl⟩ := hC
  have h4 := G.le4
  refine ST.retP (EV.joined (JV.cons EV.str (JV.cons (EV.fmtI (bLenT T (EV.fld (nm 0) B.cl B.nK rfl)) (log_small (by omega))) (JV.cons EV.str JV.nil))) (fit_of _ _ ?_)) rfl
  have e1 : ((("Book of " : String) : Str)).length = 8 := by decide +kernel
  have e2 : (((" plans" : String) : Str)).length = 6 := by decide +kernel
  have e3 : (Str.empty).length = 0 := by decide +kernel
  have e4 := strI_len (ps.length : Int) (by omega) (by omega)
  have e4' : ((toString (ps.length : Int) : String) : Str).length = 1 := e4
  simp only [List.map_cons, List.map_nil, List.sum_cons, List.sum_nil, e1, e2, e3, e4']
  decide

theorem join_le (sep : Str) : ∀ ys : List Str, (Txt.join sep ys).length ≤ (ys.map (·.length)).sum + ys.length * sep.length := by
  intro ys
  rw [TL.join_eq]
  induction ys with
  | nil => exact Nat.zero_le _
  | cons x r ih =>
    cases r with
    | nil =>
      show x.length ≤ _
      simp
    | cons z r =>
      show (x ++ sep ++ Str.join sep (z :: r)).length ≤ _
      rw [strLen_append, strLen_append, List.map_cons, List.sum_cons, List.length_cons, Nat.add_mul]
      omega
theorem plan_len {p : PyData} (h : M.isPlan p = true) (hs : M.smallP p) : (M.planText p).length ≤ 600000 := by
  obtain ⟨n, g, b, rr, rfl, hn, hg, b1, b4, hrr⟩ := M.plan_shape h
  obtain ⟨h5, hst⟩ := rounds_strs hrr
  have hl := head_len hn hg b1 b4
  have h1 : ((rr.map M.strOf).map (·.length)).sum ≤ (rr.map M.strOf).length * 99990 := sum_le _ _ _ fun x hx => by
    obtain ⟨y, hy, rfl⟩ := List.mem_map.mp hx
    obtain ⟨s, rfl⟩ := hst y hy
    exact (hs _ _ _ _ rfl).2 rr rfl _ hy s rfl
  have e1 : ((("\n" : String) : Str)).length = 1 := by decide +kernel
  have h2 := join_le "\n" (M.headText n g b :: rr.map M.strOf)
  rw [List.map_cons, List.sum_cons, e1, List.length_cons] at h2
  rw [List.length_map] at h1 h2
  have : rr.length * 99990 ≤ 5 * 99990 := Nat.mul_le_mul_right _ h5
  show (Txt.join _ _).length ≤ _
  omega
theorem scStr : FnScope ["self", "plan"] ["self"] (defScope sStr) := ⟨rfl, rfl, rfl, by decide +kernel, rfl, by decide +kernel, by decide +kernel⟩
def cnStr (C : Addr) : Con := fun rs μ r μ' => ∃ ps, rs = [bookE C ps] ∧ M.Good ps ∧ r = Ss (M.bookText ps) ∧ μ' = μ
theorem okStr {f : Addr} {fd : FuncData} (F : Fun K "__str__" "Book.__str__" sStr f fd) (B : Kl K C) (C1 : Cal P w K mg base "plan_text" 1 ["plan"] cnPlanText) : FnOk P w K mg base CX0 2 f fd ["self"] (SpV K ["self"] (cnStr C)) := by
  refine fn_mk F scStr (by decide) (fun rs μ r μ' h => by obtain ⟨_, rfl, _, _, rfl⟩ := h; exact ⟨rfl, rfl⟩) fun cdv A outer s H E hr rs μ r μ' hC => ?_
  obtain ⟨ps, rfl, G, rfl, rfl⟩ := hC
  have h4 := G.le4
  have e1 : ((("\n" : String) : Str)).length = 1 := by decide +kernel
  refine ST.retP (EV.join (ys := ps.map M.planText) EV.str (EV.eq (LCV.evf (own := [("plan", 1)]) (LCV.map (fun p => .str (M.planText p)) (IV.tup (EV.fld (nm 0) B.cl B.nK rfl)) (fun p hp => ?_) (by omega)) rfl scStr.nd (blkOk_by (N := ["self", "plan"]) (sc := defScope sStr) (by decide +kernel))).ev (congrArg Ls (by rw [List.map_map]; rfl))) ?_) rfl
  · exact ⟨_, fun _ _ _ _ _ => GV.name (i := 1) scStr.nd rfl (Or.inl rfl) (by simp), fun _ _ _ _ _ => EV.call C1 hr (AV.cons (nm 1) AV.nil) ⟨p, rfl, G.each p hp, rfl, rfl⟩⟩
  · have h1 : ((ps.map M.planText).map (·.length)).sum ≤ (ps.map M.planText).length * 600000 := sum_le _ _ _ fun x hx => by
      obtain ⟨p, hp, rfl⟩ := List.mem_map.mp hx
      exact plan_len (G.each p hp).1 (G.each p hp).2
    rw [e1]
    rw [List.length_map] at h1 ⊢
    have : ps.length * 600000 ≤ 4 * 600000 := Nat.mul_le_mul_right _ h4
    omega
end
end J
/-! L1: the law's numbers: cells, draws, picks. -/
namespace J
open PySem PySem.Spec
open PyProof.Rows L2
variable [KC]
theorem at_set {μ : Sto} {k : Nat} {ds es : List PyData} (h : μ[k]? = some ds) : (μ.set k es)[k]? = some es := by
  have := (List.getElem?_eq_some_iff.mp h).1
  simp [this]
theorem take_set {μ : Sto} {k : Nat} {es : List PyData} : (μ.set k es).take μ.length = μ.set k es := by
  rw [List.take_of_length_le (by simp)]
/-- what is picked from: a list or a text -/
def Menu (r : Ent) (ds : List PyData) : Prop := r = Ls ds ∨ ∃ s : Str, r = Ss s ∧ ds = strD s ∧ s.length ≤ 100000
def cnDraw : Con := fun rs μ r μ' => ∃ (k : Nat) (p : G.Pu) (m : Int), rs = [.ptr k, Ii m] ∧ (μ[k]? = some p.ds ∧ p.ok ∧ 0 < m ∧ m ≤ 100000) ∧ r = Ii (G.draw m p).1 ∧ μ' = μ.set k (G.draw m p).2.ds
def cnPick : Con := fun rs μ r μ' => ∃ (k : Nat) (p : G.Pu) (m : Ent) (ds : List PyData), rs = [.ptr k, m] ∧ (μ[k]? = some p.ds ∧ p.ok ∧ Menu m ds ∧ 0 < ds.length ∧ ds.length ≤ 100000) ∧ r = .dat (G.pick .none ds p).1 ∧ μ' = μ.set k (G.pick .none ds p).2.ds
end J
/-! LA: the law's draws: cells, purses, names, goals, clauses. -/
namespace J
open PySem PySem.Spec
open PyProof.Rows L2
variable [KC]
/-- [.. for ..] each of whose items draws -/
theorem LCV.run {X : Cx} {ρ : REnv} {μ μ1 : Sto} {tg iter elt : Expr} {scope : Scope} {own : List (Str × Nat)} {α β : Type} {k : Nat} {p : G.Pu} {bs : List β} (h : β → PyData) (g : α → PyData) (f : β → G.Pu → α × G.Pu) (hi : IV X tg iter ρ μ (bs.map h) μ1) (h1 : μ1 = μ1.set k p.ds) (hp : p.ok) (hf : ∀ b ∈ bs, ∀ q, q.ok → (f b q).2.ok)
    (hs : ∀ b ∈ bs, ∀ q, q.ok → ∃ ρ', (∀ s H C cl fp, GV (blkX X scope s H C cl fp) tg (h b) (wipeE ρ (own.map (·.2))) ρ' (own.map (·.2))) ∧ (∀ s H C cl fp, EV (blkX X scope s H C cl fp) elt ρ' (μ1.set k q.ds) (.dat (g (f b q).1)) (μ1.set k (f b q).2.ds)))
    (hl : bs.length ≤ 100000) : LCV X elt tg iter [] scope own ρ μ ((G.run f bs p).1.map g) (μ1.set k (G.run f bs p).2.ds) := by
  have hok : ∀ i, (G.run f (bs.take i) p).2.ok := fun i => (G.run_ok (R := fun _ _ => True) (bs.take i) p (fun b hb q hq => ⟨trivial, hf b (List.mem_of_mem_take hb) q hq⟩) hp).2
  refine LCV.mk hi (fun i acc ν => acc = (G.run f (bs.take i) p).1.map g ∧ ν = μ1.set k (G.run f (bs.take i) p).2.ds) ⟨by simp [G.run], h1⟩ (fun i d acc ν e hI => ?_) (fun acc ν hI => ?_) (by simpa using hl)
  · obtain ⟨rfl, rfl⟩ := hI
    rw [List.getElem?_map] at e
    cases q : bs[i]? with
    | none => rw [q] at e; cases e
    | some b =>
      rw [q] at e
      cases e
      have tk : bs.take (i + 1) = bs.take i ++ [b] := by
        rw [List.take_succ, q]
        rfl
      obtain ⟨ρ', a1, a2⟩ := hs b (List.mem_iff_getElem?.mpr ⟨i, q⟩) _ (hok i)
      refine ⟨ρ', a1, true, _, .inl ⟨rfl, rfl, rfl⟩, iteT ⟨_, _, a2, ?_, ?_⟩⟩
      · rw [tk, G.run_snoc, List.map_append]
        rfl
      · rw [tk, G.run_snoc]
  · rw [List.length_map, List.take_length] at hI
    exact hI
theorem set_same {μ : Sto} {k : Nat} {x : List PyData} (h : μ[k]? = some x) : μ = μ.set k x := by
  obtain ⟨h1, h2⟩ := List.getElem?_eq_some_iff.mp h
  rw [← h2, List.set_getElem_self]
theorem rngR (n : Nat) : rngD 0 n = (List.range n).map fun (i : Nat) => PyData.int (0 + (i : Int)) := rfl
def absI (n : Int) : Int := if n < 0 then -n else n
theorem nth_map {α β : Type} {d : α} {d' : β} (f : α → β) {l : List α} {i : Int} (h0 : 0 ≤ i) (h1 : i < l.length) : G.nth d' (l.map f) i = f (G.nth d l i) := by
  have a := G.nth_some (d := d') (l := l.map f) h0 (by simpa using h1)
  have b := G.nth_some (d := d) h0 h1
  rw [List.getElem?_map, b] at a
  exact (Option.some.inj a).symm
theorem pick_map {α β : Type} {d : α} {d' : β} (f : α → β) {l : List α} {p : G.Pu} (hp : p.ok) (hl : 0 < l.length) : G.pick d' (l.map f) p = (f (G.pick d l p).1, (G.pick d l p).2) := by
  obtain ⟨h1, h2, _⟩ := G.draw_ok (m := l.length) hp (by omega)
  unfold G.pick
  rw [List.length_map, nth_map (d := d) f h1 h2]
theorem words_split : Txt.split ("join take clear call plan base all last before left right on of a a1 z9" : Str) " " = G.words := by decide +kernel
theorem signs_str : strD (M.letters ++ M.digits) = G.signs.map fun c => .str ⟨#[c]⟩ := rfl
theorem signs_eq : ("abcdefghijklmnopqrstuvwxyz0123456789" : Str) = M.letters ++ M.digits := by decide +kernel
theorem join_nil : ∀ cs : List Nat, TL.joinL [] (cs.map fun c => [c]) = cs
  | [] => rfl
  | [c] => rfl
  | c :: d :: cs => by
    have := join_nil (d :: cs)
    show [c] ++ [] ++ TL.joinL [] ((d :: cs).map fun c => [c]) = _
    rw [this]
    rfl
theorem join_signs (c : Nat) (cs : List Nat) : (⟨#[c]⟩ : Str) ++ Txt.join "" (cs.map fun c => ⟨#[c]⟩) = ⟨(c :: cs).toArray⟩ := by
  have h : Txt.join (SX.S []) ((cs.map fun c => [c]).map SX.S) = SX.S cs := by rw [SX.join_S, join_nil]
  rw [List.map_map] at h
  have h2 : Txt.join "" (cs.map fun c => (⟨#[c]⟩ : Str)) = SX.S cs := h
  rw [h2]
  exact SX.S_cat [c] cs
end J
/-! JL: what the laws' texts share. -/
namespace J
open PySem PySem.Spec
open PyProof.Rows L2
variable [KC]
abbrev CDraw (P : Program) (w : World) (K : PySem.W.Frag) (mg : Str → Option Value) (base : Heap) := Cal P w K mg base "_law_draw" 1 ["_law_purse_here", "_law_many"] cnDraw
abbrev CPick (P : Program) (w : World) (K : PySem.W.Frag) (mg : Str → Option Value) (base : Heap) := Cal P w K mg base "_law_pick" 2 ["_law_purse_here", "_law_menu"] cnPick
theorem sset {μ : Sto} {k : Nat} {a b : List PyData} : (μ.set k a).set k b = μ.set k b := by rw [List.set_set]
theorem EV.draw {X : Cx} {ρ : REnv} {μ : Sto} {a b : Expr} {p0 pos : Pos} {k n : Nat} {p : G.Pu} {m : Int} (C1 : Cal X.prog X.w X.K X.mg X.base "_law_draw" 1 ["_law_purse_here", "_law_many"] cnDraw) (hr : Room n X.A) (ha : EV X a ρ μ (.ptr k) μ) (hb : EV X b ρ μ (Ii m) μ) (hk : μ[k]? = some p.ds) (hp : p.ok) (h1 : 0 < m := by decide) (h2 : m ≤ 100000 := by decide) (hn : 1 ≤ n := by decide)
    (hg : Gl X "_law_draw" := by rfl) (he : starEach [a, b] X.env = (false, eval a X.env) :: starEach [b] X.env := by rfl) (he2 : starEach [b] X.env = (false, eval b X.env) :: starEach [] X.env := by rfl) (hpl : (backTo pos (starEach [b] X.env)).any (·.1) = false := by rfl) : EV X (.Call (.Name "_law_draw" p0) [a, b] [] pos) ρ μ (Ii (G.draw m p).1) (μ.set k (G.draw m p).2.ds) :=
  EV.call C1 (hr.mono hn) (AV.cons ha (AV.cons hb AV.nil he2) he) ⟨k, p, m, rfl, ⟨hk, hp, h1, h2⟩, rfl, rfl⟩ rfl hg (by decide) he hpl
theorem EV.drawE {X : Cx} {ρ : REnv} {μ : Sto} {a b : Expr} {p0 pos : Pos} {k n : Nat} {p q : G.Pu} {m i : Int} (C1 : Cal X.prog X.w X.K X.mg X.base "_law_draw" 1 ["_law_purse_here", "_law_many"] cnDraw) (hi : (G.draw m p).1 = i) (hq : (G.draw m p).2 = q) (hr : Room n X.A) (ha : EV X a ρ μ (.ptr k) μ) (hb : EV X b ρ μ (Ii m) μ) (hk : μ[k]? = some p.ds) (hp : p.ok) (h1 : 0 < m := by decide) (h2 : m ≤ 100000 := by decide) (hn : 1 ≤ n := by decide)
    (hg : Gl X "_law_draw" := by rfl) (he : starEach [a, b] X.env = (false, eval a X.env) :: starEach [b] X.env := by rfl) (he2 : starEach [b] X.env = (false, eval b X.env) :: starEach [] X.env := by rfl) (hpl : (backTo pos (starEach [b] X.env)).any (·.1) = false := by rfl) : EV X (.Call (.Name "_law_draw" p0) [a, b] [] pos) ρ μ (Ii i) (μ.set k q.ds) := by
  subst hi
  subst hq
  exact EV.draw C1 hr ha hb hk hp h1 h2 hn hg he he2 hpl
theorem ap_set {μ : Sto} {k : Nat} {x : List PyData} {rest : Sto} (h : k < μ.length) : (μ ++ rest).set k x = μ.set k x ++ rest := by rw [List.set_append_left _ _ h]
theorem ap_get {μ : Sto} {k : Nat} {rest : Sto} (h : k < μ.length) : (μ ++ rest)[k]? = μ[k]? := List.getElem?_append_left h
theorem at_last {μ : Sto} {x : List PyData} {rest : Sto} : (μ ++ x :: rest)[μ.length]? = some x := by simp
theorem set_last {μ : Sto} {x y : List PyData} {rest : Sto} : (μ ++ x :: rest).set μ.length y = μ ++ y :: rest := by simp
theorem EV.st {X : Cx} {ρ : REnv} {μ μ1 μ' : Sto} {e : Expr} {r : Ent} (h : EV X e ρ μ r μ1) (q : μ1 = μ') : EV X e ρ μ r μ' := q ▸ h
theorem seqI {j n : Nat} (h : j < n) : seqIndex? (j : Int) n = some j := by
  have h0 : ¬ ((j : Int) < 0) := by omega
  have h1 : (0 : Int) ≤ (j : Int) := by omega
  have h2 : ((j : Int) < (n : Int)) := by omega
  unfold seqIndex?
  simp [h0, h1, h2]
  try omega
/-- no test; over typed items -/
theorem LCV.mapT {X : Cx} {ρ : REnv} {μ μ1 : Sto} {tg iter elt : Expr} {scope : Scope} {own : List (Str × Nat)} {α : Type} {bs : List α} (h : α → PyData) (g : α → PyData) (hi : IV X tg iter ρ μ (bs.map h) μ1)
    (hs : ∀ b ∈ bs, ∃ ρ', (∀ s H C cl fp, GV (blkX X scope s H C cl fp) tg (h b) (wipeE ρ (own.map (·.2))) ρ' (own.map (·.2))) ∧ (∀ s H C cl fp, EV (blkX X scope s H C cl fp) elt ρ' μ1 (.dat (g b)) μ1)) (hl : bs.length ≤ 100000) : LCV X elt tg iter [] scope own ρ μ (bs.map g) μ1 := by
  refine LCV.mk hi (fun i acc ν => acc = (bs.take i).map g ∧ ν = μ1) ⟨by simp, rfl⟩ (fun i d acc ν e hI => ?_) (fun acc ν hI => ?_) (by simpa using hl)
  · obtain ⟨rfl, rfl⟩ := hI
    rw [List.getElem?_map] at e
    cases q : bs[i]? with
    | none => rw [q] at e; cases e
    | some b =>
      rw [q] at e
      cases e
      obtain ⟨ρ', a1, a2⟩ := hs b (List.mem_iff_getElem?.mpr ⟨i, q⟩)
      refine ⟨ρ', a1, true, _, .inl ⟨rfl, rfl, rfl⟩, iteT ⟨_, _, a2, ?_, rfl⟩⟩
      rw [List.take_succ, q]
      simp
  · rw [List.length_map, List.take_length] at hI
    exact hI
theorem IV.eqD {X : Cx} {tg e : Expr} {ρ : REnv} {μ μ1 : Sto} {ds es : List PyData} (h : IV X tg e ρ μ ds μ1) (q : ds = es) : IV X tg e ρ μ es μ1 := q ▸ h
theorem log_dig {i : Int} (h : 0 ≤ i ∧ i ≤ 9) : i.natAbs.log2 < 1920 := log_small (by
  have h1 : i.natAbs ≤ 9 := by omega
  exact Nat.lt_of_le_of_lt h1 (by decide))
end J
/-! J56: comprehensions with a test. -/
namespace J
open PySem PySem.Spec
open PyProof.Rows L2
variable [KC]
/-- what is walked, by a test, and changed -/
theorem LCV.filtMap {X : Cx} {ρ : REnv} {μ μ1 : Sto} {tg iter elt c : Expr} {scope : Scope} {own : List (Str × Nat)} {α : Type} {bs : List α} (h g : α → PyData) (t : α → Bool) (hi : IV X tg iter ρ μ (bs.map h) μ1)
    (hs : ∀ b ∈ bs, ∃ ρ', (∀ s H C cl fp, GV (blkX X scope s H C cl fp) tg (h b) (wipeE ρ (own.map (·.2))) ρ' (own.map (·.2))) ∧ (∀ s H C cl fp, TV (blkX X scope s H C cl fp) c ρ' μ1 (t b) μ1) ∧ (∀ s H C cl fp, EV (blkX X scope s H C cl fp) elt ρ' μ1 (.dat (g b)) μ1))
    (hl : bs.length ≤ 100000) : LCV X elt tg iter [c] scope own ρ μ ((bs.filter t).map g) μ1 := by
  refine LCV.mk hi (fun i acc ν => acc = ((bs.take i).filter t).map g ∧ ν = μ1) ⟨by simp, rfl⟩ (fun i d acc ν e hI => ?_) (fun acc ν hI => ?_) (by simpa using hl)
  · obtain ⟨rfl, rfl⟩ := hI
    rw [List.getElem?_map] at e
    cases q : bs[i]? with
    | none => rw [q] at e; cases e
    | some b =>
      rw [q] at e
      cases e
      obtain ⟨ρ', h1, h2, h3⟩ := hs b (List.mem_iff_getElem?.mpr ⟨i, q⟩)
      refine ⟨ρ', h1, t b, _, .inr ⟨c, rfl, h2⟩, ?_⟩
      have et : ((bs.take (i + 1)).filter t).map g = ((bs.take i).filter t).map g ++ (if t b = true then [g b] else []) := by
        rw [List.take_succ, q, List.filter_append, Option.toList_some, List.filter_cons, List.filter_nil, List.map_append]
        cases t b <;> rfl
      cases ht : t b with
      | true =>
        rw [ht, if_pos rfl] at et
        exact iteT ⟨g b, _, h3, et.symm, rfl⟩
      | false =>
        rw [ht, if_neg (by decide), List.append_nil] at et
        exact iteF ⟨et.symm, rfl⟩
  · rw [List.length_map, List.take_length] at hI
    exact hI
end J
/-! PH1: is_place, done_places, read_places. -/
namespace M
open PySem J L2
variable [KC]
def doneP (w : Str) (e d f n : Int) : List Int := (spots e n d).filter fun p => !(w == ("join" : Str)) || isPlace (p + f) n
def readP (w : Str) (e d f n : Int) : List Int := if (w == ("clear" : Str)) = true then [] else ((spots e n d).filter fun p => isPlace (p + f) n).map fun p => p + f
end M
namespace J
open PySem PySem.Spec
open PyProof.Rows L2
variable [KC]
section
variable {w : World} {P : Program} {K : PySem.W.Frag} {base : Heap} {mg : Str → Option Value}
theorem scIsPl : FnScope ["place", "size"] ["place", "size"] (defScope sIsPlace) := ⟨rfl, rfl, rfl, by decide +kernel, rfl, by decide +kernel, by decide +kernel⟩
def cnIsPl : Con := fun rs μ r μ' => ∃ p n : Int, rs = [Ii p, Ii n] ∧ r = Bb (M.isPlace p n) ∧ μ' = μ
abbrev CIsPl (P : Program) (w : World) (K : PySem.W.Frag) (mg : Str → Option Value) (base : Heap) : Prop := Cal P w K mg base "is_place" 1 ["place", "size"] cnIsPl
theorem cIsPl (D : Df K mg "is_place" sIsPlace) : CIsPl P w K mg base := by
  refine D.cal scIsPl (fun _ _ _ _ _ _ us hl => match us, hl with | [_, _], _ => rfl) (by decide) (fun rs μ r μ' h => by obtain ⟨_, _, _, _, rfl⟩ := h; rfl) fun f cdv A outer s H E hr rs μ r μ' hC => ?_
  obtain ⟨p, n, rfl, rfl, rfl⟩ := hC
  exact ST.retP (chainLe op_le op_lt EV.int (nm 0) (nm 1)) rfl
abbrev nDon : List Str := ["clause", "size", "deed", "remainder", "divisor", "far", "place"]
theorem scDon : FnScope nDon ["clause", "size"] (defScope sDonePlaces) := ⟨rfl, rfl, rfl, by decide +kernel, rfl, by decide +kernel, by decide +kernel⟩
theorem scRea : FnScope nDon ["clause", "size"] (defScope sReadPlaces) := ⟨rfl, rfl, rfl, by decide +kernel, rfl, by decide +kernel, by decide +kernel⟩
def Rg (e n d : Int) : Prop := RgC e n d (Builtin.Range.rangeSize e n d).toNat ∧ (Builtin.Range.rangeSize e n d).toNat ≤ 100000
def cnDon : Con := fun rs μ r μ' => ∃ (w : Str) (e d f n : Int), rs = [Tp [.str w, .int e, .int d, .int f], Ii n] ∧ Rg e n d ∧ r = Ls ((M.doneP w e d f n).map .int) ∧ μ' = μ
theorem cDon (T : Bt mg) (C1 : CIsPl P w K mg base) (D : Df K mg "done_places" sDonePlaces) : Cal P w K mg base "done_places" 2 ["clause", "size"] cnDon := by
  refine D.cal scDon (fun _ _ _ _ _ _ us hl => match us, hl with | [_, _], _ => rfl) (by decide) (fun rs μ r μ' h => by obtain ⟨_, _, _, _, _, _, _, _, rfl⟩ := h; rfl) fun f cdv A outer s H E hr rs μ r μ' hC => ?_
  obtain ⟨wd, e, d, fr, n, rfl, ⟨hR, hl⟩, rfl, rfl⟩ := hC
  refine ST.asg (is := [2, 3, 4, 5]) (nm 0) (GV.tup (GsV.cons (GV.name (i := 2) scDon.nd rfl (by first | exact Or.inl rfl | exact Or.inr rfl) (by simp)) (GsV.cons (GV.name (i := 3) scDon.nd rfl (by first | exact Or.inl rfl | exact Or.inr rfl) (by simp)) (GsV.cons (GV.name (i := 4) scDon.nd rfl (by first | exact Or.inl rfl | exact Or.inr rfl) (by simp)) (GsV.cons (GV.name (i := 5) scDon.nd rfl (by first | exact Or.inl rfl | exact Or.inr rfl) (by simp)) GsV.nil))))) ?_
  refine ST.retP (LCV.evf (own := [("place", 6)]) (LCV.filtMap (bs := M.spots e n d) .int .int (fun p => !(wd == ("join" : Str)) || M.isPlace (p + fr) n) (IV.eqD (IV.rng3 (nm 3) (nm 1) (nm 4) hR T.range) (rngC_spots e n d)) (fun p hp => ⟨_, fun _ _ _ _ _ => GV.name (i := 6) scDon.nd rfl (Or.inl rfl) (by simp), fun _ _ _ _ _ => WV.tv (WV.orP (TV.eq (tNe (d := .str wd) (d2 := .str "join") (nm 2) EV.str) rfl) (WV.or1 (TV.val (EV.call C1 hr (AV.cons (oAdd (nm 6) (nm 5)) (AV.cons (nm 1) AV.nil)) ⟨_, _, rfl, rfl, rfl⟩)))), fun _ _ _ _ _ => nm 6⟩) (by unfold M.spots; rw [List.length_map, List.length_range]; exact hl)) rfl scDon.nd (blkOk_by (N := nDon) (sc := defScope sDonePlaces) (by decide +kernel))).ev rfl
def cnRea : Con := fun rs μ r μ' => ∃ (w : Str) (e d f n : Int), rs = [Tp [.str w, .int e, .int d, .int f], Ii n] ∧ Rg e n d ∧ r = Ls ((M.readP w e d f n).map .int) ∧ μ' = μ
theorem cRea (T : Bt mg) (C1 : CIsPl P w K mg base) (D : Df K mg "read_places" sReadPlaces) : Cal P w K mg base "read_places" 2 ["clause", "size"] cnRea := by
  refine D.cal scRea (fun _ _ _ _ _ _ us hl => match us, hl with | [_, _], _ => rfl) (by decide) (fun rs μ r μ' h => by obtain ⟨_, _, _, _, _, _, _, _, rfl⟩ := h; rfl) fun f cdv A outer s H E hr rs μ r μ' hC => ?_
  obtain ⟨wd, e, d, fr, n, rfl, ⟨hR, hl⟩, rfl, rfl⟩ := hC
  refine ST.asg (is := [2, 3, 4, 5]) (nm 0) (GV.tup (GsV.cons (GV.name (i := 2) scRea.nd rfl (by first | exact Or.inl rfl | exact Or.inr rfl) (by simp)) (GsV.cons (GV.name (i := 3) scRea.nd rfl (by first | exact Or.inl rfl | exact Or.inr rfl) (by simp)) (GsV.cons (GV.name (i := 4) scRea.nd rfl (by first | exact Or.inl rfl | exact Or.inr rfl) (by simp)) (GsV.cons (GV.name (i := 5) scRea.nd rfl (by first | exact Or.inl rfl | exact Or.inr rfl) (by simp)) GsV.nil))))) ?_
  unfold M.readP
  refine ST.ifR (TV.eq (k' := wd == ("clear" : Str)) (tEq (d := .str wd) (d2 := .str "clear") (nm 2) EV.str) rfl) (fun hb => ?_) (fun hb => ?_)
  · rw [if_pos hb]
    exact ST.retP (EVF.lst (ds := []) AV.nil).ev rfl
  · rw [if_neg (by rw [hb]; decide)]
    refine ST.retP (EV.eq (LCV.evf (own := [("place", 6)]) (LCV.filtMap (bs := M.spots e n d) .int (fun p => .int (p + fr)) (fun p => M.isPlace (p + fr) n) (IV.eqD (IV.rng3 (nm 3) (nm 1) (nm 4) hR T.range) (rngC_spots e n d)) (fun p hp => ⟨_, fun _ _ _ _ _ => GV.name (i := 6) scRea.nd rfl (Or.inl rfl) (by simp), fun _ _ _ _ _ => TV.val (EV.call C1 hr (AV.cons (oAdd (nm 6) (nm 5)) (AV.cons (nm 1) AV.nil)) ⟨_, _, rfl, rfl, rfl⟩), fun _ _ _ _ _ => oAdd (nm 6) (nm 5)⟩) (by unfold M.spots; rw [List.length_map, List.length_range]; exact hl)) rfl scRea.nd (blkOk_by (N := nDon) (sc := defScope sReadPlaces) (by decide +kernel))).ev (congrArg Ls (by rw [List.map_map]; rfl))) rfl
end
end J
/-! J52: a local name = [e for a in xs for b in ys]. -/
namespace J
open PySem PySem.Spec
open PyProof.Rows L2
variable [KC]
section
variable {X : Cx} {W : WX} {n0 : Nat} {rest : List Stmt} {P : Out → Prop} {ρ : REnv} {μ μ1 : Sto} {tg iter tg1 iter1 elt : Expr} {pos pos2 p' : Pos} {ds : List PyData} {x0 : Str}
theorem ST.lc2 {i0 : Nat} {scope : Scope} {own : List (Str × Nat)} {vs1 : List Nat} (F : PyData → List PyData) (f : PyData → PyData → PyData) (hi : IV X tg iter ρ μ ds μ1) (hc : X.calm = true) (hN : X.N.Nodup) (hi0 : X.N[i0]? = some x0) (hx0 : X.env.scope.names.lookup x0 = some .local) (ok : BlkOk X.N X.env.scope scope own) (hv : ∀ i ∈ vs1, i ∈ own.map (·.2))
    (hs : ∀ d ∈ ds, ∃ ρ', (∀ s H C cl fp, GV (blkX X scope s H C cl fp) tg d (wipeE ρ (own.map (·.2))) ρ' (own.map (·.2))) ∧ (∀ s H C cl fp, IV (blkX X scope s H C cl fp) tg1 iter1 ρ' μ1 (F d) μ1) ∧
      ∀ e ∈ F d, ∃ ρ2, (∀ s H C cl fp, GV (blkX X scope s H C cl fp) tg1 e (wipeE ρ' vs1) ρ2 vs1) ∧ ∀ s H C cl fp, EV (blkX X scope s H C cl fp) elt ρ2 μ1 (.dat (f d e)) μ1)
    (hl : ∀ n, ((ds.take n).flatMap fun d => (F d).map (f d)).length ≤ 100000) (hl2 : ∀ n, ∀ d ∈ ds, ∀ m, ((ds.take n).flatMap fun d => (F d).map (f d)).length + m ≤ 100000 ∨ (F d).length < m)
    (hr : ST X W n0 rest (ρ.set i0 (some (Ls (ds.flatMap fun d => (F d).map (f d))))) μ1 P)
    (hsw : swapsWith (.ListComp elt [⟨tg, iter, [], 0⟩, ⟨tg1, iter1, [], 0⟩] scope pos) (some (.Name x0 p')) pos2.line X.env = pure true)
    (hst : ∀ x, foldedSetIterable iter X.env x = pure x := by intro _; rfl) (hst1 : ∀ env x, foldedSetIterable iter1 env x = pure x := by intro _ _; rfl) :
    ST X W n0 (.Assign [.Name x0 p'] (.ListComp elt [⟨tg, iter, [], 0⟩, ⟨tg1, iter1, [], 0⟩] scope pos) pos2 :: rest) ρ μ P := by
  intro w σ H D0 hn m s q0
  refine ⟨_, pss_cons (ps_setLc2 (i := i0) hc hN hi0 hx0 hsw (p_ix (tg := tg) (e := iter)) ok hv pg_C (fun _ _ _ _ _ => pts_nil) pi_C pg_C (fun _ _ _ _ _ => pts_nil) pe_C hst hst1) p_sx, ?_⟩
  show tLc2 _ _ _ _ _ _ _ _ _ σ H fun v H1 => SX X rest D0 (σ.set i0 (some v)) H1
  have q : ∀ p H' vs, Mem X.K H' (wk' w p) μ1 → Fr w.α H H' → Nw H p → H' p = some (.lst vs) → DqAll (dl H' (wk' w p).all) vs (ds.flatMap fun d => (F d).map (f d)) → SX X rest D0 (σ.set i0 (some (.ref p))) H' := by
    intro p H1 vs m1 f1 hp e1 hd
    have hv : Val X.K H1 w (.ref p) (Ls (ds.flatMap fun d => (F d).map (f d))) := Dq.lst (dl_of (m.freshN hp) e1) (dqAll_mono (dl_sub fun b hb => all_wk'.mpr (.inr hb)) _ _ hd)
    exact hr w _ H1 D0 hn m1.unkeep ((s.fr f1).set hv) fun o ho => (q0 o ho).step hn f1
  refine hi w σ H m s _ fun J H1 m1 f1 wk => ?_
  intro D hD
  have hD0 : Nw H D := Nw.back f1 (Nw.of hD) (m1.fresh hD)
  refine ⟨fun i n H2 => n = ds.length - i ∧ i ≤ ds.length ∧ Mid X.K w D H1 μ1 ((ds.take i).flatMap fun d => (F d).map (f d)) H2, ⟨ds.length, by simp, Nat.zero_le _, m1.keep hD, fun b o e hb _ => ?_, [], upd_same, by simpa using DqAll.nil⟩, ?_⟩
  · rw [upd_ne (ne_of_none e hD)]
    exact e
  rintro i n H2 ⟨rfl, hi', M2⟩
  obtain ⟨vs, e2, hd2⟩ := M2.at_
  have m2 := M2.mem
  have g12 : Same (dl H1 w.all) (dl H2 (wk' w D).all) := keep_out (K := X.K) hD M2.keep ⟨_, e2⟩
  have g12' : Same (dl H1 w.all) H2 := g12.trans dl_same
  by_cases hlt : i < ds.length
  · obtain ⟨d, hdi⟩ : ∃ d, ds[i]? = some d := ⟨ds[i], by simp [hlt]⟩
    have hdm : d ∈ ds := List.mem_iff_getElem?.mpr ⟨i, hdi⟩
    have tk : (ds.take (i + 1)).flatMap (fun d => (F d).map (f d)) = (ds.take i).flatMap (fun d => (F d).map (f d)) ++ (F d).map (f d) := by
      rw [List.take_succ, hdi]
      simp
    obtain ⟨go, yl⟩ := wk.go H2 g12' i d hdi
    refine .inr ⟨go, fun H' => Mid X.K w D H1 μ1 ((ds.take (i + 1)).flatMap fun d => (F d).map (f d)) H', fun H' h => ⟨ds.length - (i + 1), by omega, rfl, hlt, h⟩, fun x H3 y3 => ?_⟩
    obtain ⟨s23, dx⟩ := yl x H3 y3
    have dx3 : Dq (dl H3 (wk' w D).all) x d := dx _ g12 fun b hb => (all_wk'.mp hb).elim (fun z => z ▸ ⟨_, e2⟩) fun hb => (List.mem_append.mp hb).elim (fun z => (m2.there z).elim fun vs e => ⟨_, e⟩) fun z => m2.ex1 (List.mem_cons_of_mem _ z)
    have M3 : Mid X.K w D H1 μ1 _ H3 := M2.fr (Fr.of_same s23) (m2.same s23)
    have sl3 : Sl X.K H3 (wk' w D) (wipe σ (own.map (·.2))) (wipeE ρ (own.map (·.2))) := (sl_wipe ((s.fr f1).same2 g12) _).fr (w := wk' w D) (Fr.of_same s23)
    obtain ⟨ρ', hgv, hiv, hel⟩ := hs d hdm
    intro s' H0 C cl fp
    refine hgv s' H0 C cl fp _ _ H3 μ1 x M3.mem sl3 dx3 _ fun σ4 sl4 ew => ⟨ew.trans (wipe_wipe _ σ), ?_⟩
    refine yes_if ?_
    intro s' H0 C cl fp
    refine hiv s' H0 C cl fp (wk' w D) σ4 H3 M3.mem sl4 _ fun J1 H4 m4 f34 wk1 => ?_
    have M4 : Mid X.K w D H1 μ1 _ H4 := M3.fr f34 m4
    have sl44 : Sl X.K H4 (wk' w D) σ4 ρ' := sl4.fr f34
    refine ⟨fun j k H5 => k = (F d).length - j ∧ j ≤ (F d).length ∧ Mid X.K w D H1 μ1 ((ds.take i).flatMap (fun d => (F d).map (f d)) ++ ((F d).take j).map (f d)) H5 ∧ Fr w.α H4 (fun b => if b = D then H4 D else H5 b), ⟨(F d).length, by simp, Nat.zero_le _, by simpa using M4, fun b o e hb _ => ?_⟩, ?_⟩
    · by_cases z : b = D
      · subst z; simpa using e
      · simpa [z] using e
    rintro j k H5 ⟨rfl, hj', M5, f45⟩
    obtain ⟨us, e5, hd5⟩ := M5.at_
    have m5 := M5.mem
    have g45 : Same (dl H4 (wk' w D).all) (dl H5 (wk' w D).all) := fun b o hb => by
      have nt := dl_nt hb
      obtain ⟨n1, e1⟩ := dl_some hb
      have nD : b ≠ D := fun z => n1 (all_wk'.mpr (.inl z))
      have := f45 b o e1 (fun z => n1 (List.mem_append_left _ z)) nt
      have h2 : (if b = D then H4 D else H5 b) = some o := this
      rw [if_neg nD] at h2
      exact dl_of n1 h2 nt
    have sl5 : Sl X.K H5 (wk' w D) σ4 ρ' := sl44.same g45
    by_cases hjt : j < (F d).length
    · obtain ⟨e, hej⟩ : ∃ e, (F d)[j]? = some e := ⟨(F d)[j], by simp [hjt]⟩
      have hem : e ∈ F d := List.mem_iff_getElem?.mpr ⟨j, hej⟩
      obtain ⟨go1, yl1⟩ := wk1.go H5 (g45.trans dl_same) j e hej
      refine .inr ⟨go1, fun H' => Mid X.K w D H1 μ1 ((ds.take i).flatMap (fun d => (F d).map (f d)) ++ ((F d).take (j + 1)).map (f d)) H' ∧ Fr w.α H4 (fun b => if b = D then H4 D else H' b), fun H' h => ⟨(F d).length - (j + 1), by omega, rfl, hjt, h⟩, fun x1 H6 y6 => ?_⟩
      obtain ⟨s56, dx1⟩ := yl1 x1 H6 y6
      have dx6 : Dq (dl H6 (wk' w D).all) x1 e := dx1 _ g45 fun b hb => (all_wk'.mp hb).elim (fun z => z ▸ ⟨_, e5⟩) fun hb => (List.mem_append.mp hb).elim (fun z => (m5.there z).elim fun vs e => ⟨_, e⟩) fun z => m5.ex1 (List.mem_cons_of_mem _ z)
      have M6 : Mid X.K w D H1 μ1 _ H6 := M5.fr (Fr.of_same s56) (m5.same s56)
      have sl6 : Sl X.K H6 (wk' w D) (wipe σ4 vs1) (wipeE ρ' vs1) := (sl_wipe sl5 _).fr (w := wk' w D) (Fr.of_same s56)
      obtain ⟨ρ2, hg2, hev⟩ := hel e hem
      intro s' H0 C cl fp
      refine hg2 s' H0 C cl fp _ _ H6 μ1 x1 M6.mem sl6 dx6 _ fun σ7 sl7 ew1 => ⟨ew1.trans (wipe_wipe _ σ4), ?_⟩
      refine yes_if ?_
      intro s' H0 C cl fp
      refine hev s' H0 C cl fp (wk' w D) σ7 H6 M6.mem sl7 _ fun v H8 m8 f68 hv => ?_
      have M8 : Mid X.K w D H1 μ1 _ H8 := M6.fr f68 m8
      obtain ⟨us8, e8, hd8⟩ := M8.at_
      refine ⟨us8, e8, ?_, ⟨m8.outs, fun b o e hb nt => ?_, us8 ++ [v], upd_same, ?_⟩, fun b o e hb nt => ?_⟩
      · rw [dqAll_len hd8, List.length_append, List.length_map, List.length_take]
        rcases hl2 i d hdm (j + 1) with z | z
        · have : min j (F d).length = j := by omega
          rw [this]
          exact Nat.lt_of_lt_of_le (Nat.lt_of_succ_le z) (by decide)
        · omega
      · rw [upd_ne (ne_of_none e hD)]
        exact M8.keep b o e hb nt
      · have t2 : ((F d).take (j + 1)).map (f d) = ((F d).take j).map (f d) ++ [f d e] := by
          rw [List.take_succ, hej]
          simp
        rw [t2, ← List.append_assoc]
        exact dqAll_append (dqAll_mono same_outs _ _ hd8) (.cons (dq_mono same_outs _ _ hv) .nil)
      · by_cases z : b = D
        · subst z; simpa using e
        · simp only [z, if_false, upd_ne z]
          have := f45 b o e hb nt
          have h2 : (if b = D then H4 D else H5 b) = some o := this
          rw [if_neg z] at h2
          exact f68 b o (s56 _ _ h2) hb nt
    · have ej : j = (F d).length := by omega
      subst ej
      refine .inl ⟨wk1.stop H5 (g45.trans dl_same), ?_⟩
      rw [List.take_length] at M5
      show Mid X.K w D H1 μ1 _ H5
      rw [tk]
      exact M5
  · have ei : i = ds.length := by omega
    subst ei
    rw [List.take_length] at M2 hd2
    exact .inl ⟨wk.stop H2 g12', q D H2 vs m2 (f1.trans M2.keep) hD0 e2 hd2⟩
end
end J
/-! NJ: texts joined and split; words without blanks. -/
namespace N
open PySem J L2
variable [KC]
theorem split_join {sep : Str} {c : Nat} {r : List Nat} (hs : TL.tl sep = c :: r) (h2 : (TL.tl sep).all (· < 256) = true) {ys : List Str} (hne : ys ≠ []) (h : ∀ y ∈ ys, c ∉ TL.tl y) : Txt.split (Txt.join sep ys) sep = ys := by
  have e1 : sep = SX.S (TL.tl sep) := (M.S_of_tl sep).symm
  have e2 : ys = (ys.map TL.tl).map SX.S := by
    rw [List.map_map]
    have : ys.map (SX.S ∘ TL.tl) = ys.map id := List.map_congr_left fun y _ => M.S_of_tl y
    rw [this, List.map_id]
  have e3 : Txt.join sep ys = SX.S (TL.joinL (TL.tl sep) (ys.map TL.tl)) := by
    have := SX.join_S (TL.tl sep) (ys.map TL.tl)
    rwa [← e2, ← e1] at this
  have e4 : TL.tl (SX.S (TL.joinL (TL.tl sep) (ys.map TL.tl))) = TL.joinL (TL.tl sep) (ys.map TL.tl) := rfl
  rw [e3, M.split_list _ sep (by rw [hs]; exact List.cons_ne_nil _ _) h2, e4, hs, SX.spl_join (by simpa using hne) (fun p hp => by
    obtain ⟨y, hy, rfl⟩ := List.mem_map.mp hp
    exact h y hy)]
  exact e2.symm
def sp : Str := " "
theorem sp_tl : TL.tl sp = [32] := by decide +kernel
theorem sp_256 : (TL.tl sp).all (· < 256) = true := by decide +kernel
theorem dig_free {i : Int} (h0 : 0 ≤ i) (h9 : i ≤ 9) : ∀ c ∈ TL.tl (M.strI i), 48 ≤ c := by
  have h : ∀ k : Fin 10, ∀ c ∈ TL.tl (M.strI (k.val : Int)), 48 ≤ c := by decide +kernel
  have := h ⟨i.toNat, by omega⟩
  rwa [show ((i.toNat : Nat) : Int) = i by omega] at this
theorem name_free {s : Str} (h : M.nameOk s = true) : ∀ c ∈ TL.tl s, 48 ≤ c ∧ c ≤ 122 ∧ c ≠ 59 := by
  intro c hc
  have h1 := (M.name_signs h).2.2 c hc
  have h2 : c ∈ G.signs := of_decide_eq_true h1
  have h3 : ∀ c ∈ G.signs, 48 ≤ c ∧ c ≤ 122 ∧ c ≠ 59 := by decide +kernel
  exact h3 c h2
/-- no blank and no semicolon in a word -/
def Plain (s : Str) : Prop := 32 ∉ TL.tl s ∧ 59 ∉ TL.tl s
theorem plain_dig {i : Int} (h0 : 0 ≤ i) (h9 : i ≤ 9) : Plain (M.strI i) := by
  have h : ∀ k : Fin 10, 32 ∉ TL.tl (M.strI (k.val : Int)) ∧ 59 ∉ TL.tl (M.strI (k.val : Int)) := by decide +kernel
  have := h ⟨i.toNat, by omega⟩
  rwa [show ((i.toNat : Nat) : Int) = i by omega] at this
theorem plain_name {s : Str} (h : M.nameOk s = true) : Plain s := ⟨fun z => by have := name_free h _ z; omega, fun z => by have := name_free h _ z; omega⟩
/-- no semicolon in a clause -/
theorem joinL_mem (S : List Nat) (c : Nat) : ∀ (ps : List (List Nat)), c ∈ TL.joinL S ps → c ∈ S ∨ ∃ p ∈ ps, c ∈ p
  | [], h => by cases h
  | [p], h => .inr ⟨p, by simp, h⟩
  | p :: q :: ps, h => by
    have h' : c ∈ p ++ (S ++ TL.joinL S (q :: ps)) := h
    rcases List.mem_append.mp h' with h2 | h1
    · exact .inr ⟨p, by simp, h2⟩
    rcases List.mem_append.mp h1 with h2 | h1
    · exact .inl h2
    · rcases joinL_mem S c (q :: ps) h1 with h2 | ⟨z, hz, h2⟩
      · exact .inl h2
      · exact .inr ⟨z, List.mem_cons_of_mem _ hz, h2⟩
theorem join_mem {sep : Str} {ys : List Str} {c : Nat} (h : c ∈ TL.tl (Txt.join sep ys)) : c ∈ TL.tl sep ∨ ∃ y ∈ ys, c ∈ TL.tl y := by
  have e2 : ys = (ys.map TL.tl).map SX.S := by
    rw [List.map_map]
    have : ys.map (SX.S ∘ TL.tl) = ys.map id := List.map_congr_left fun y _ => M.S_of_tl y
    rw [this, List.map_id]
  have e3 : Txt.join sep ys = SX.S (TL.joinL (TL.tl sep) (ys.map TL.tl)) := by
    have := SX.join_S (TL.tl sep) (ys.map TL.tl)
    rwa [← e2, M.S_of_tl] at this
  rw [e3] at h
  rcases joinL_mem _ _ _ h with h1 | ⟨p, hp, h1⟩
  · exact .inl h1
  · obtain ⟨y, hy, rfl⟩ := List.mem_map.mp hp
    exact .inr ⟨y, hy, h1⟩
theorem dig_in {i lo hi : Int} (h0 : 0 ≤ lo) (h1 : lo ≤ i) (h2 : i ≤ hi) (h9 : hi ≤ 9) : M.readDigit (M.strI i) lo hi = .int i := by
  obtain ⟨n, rfl⟩ : ∃ n : Nat, i = (n : Int) := ⟨i.toNat, by omega⟩
  have e := (M.dig_text n (by omega)).2.1
  unfold M.readDigit
  rw [if_pos, e]
  unfold inD M.digList
  rw [List.any_eq_true]
  refine ⟨.str (M.strI n), List.mem_map.mpr ⟨.int n, ?_, rfl⟩, ?_⟩
  · unfold rngD
    refine List.mem_map.mpr ⟨((n : Int) - lo).toNat, List.mem_range.mpr (by omega), ?_⟩
    congr 1
    omega
  · show (M.strI n == M.strI n) = true
    exact beq_self_eq_true _
end N
/-! N2: clauses are read back. -/
namespace N
open PySem J L2
variable [KC]
/-- a clause that is one -/
structure PartGood (x : G.Part) : Prop where
  b : 1 ≤ x.by_ ∧ x.by_ ≤ 3
  o : 0 ≤ x.over ∧ x.over < x.by_
  k : (x.word = "call" ∧ M.nameOk x.tag = true ∧ x.far = 0 ∧ x.side = Str.empty) ∨ (x.word = "clear" ∧ x.far = 0 ∧ x.side = Str.empty ∧ x.tag = Str.empty) ∨ ((x.word = "join" ∨ x.word = "take") ∧ (x.side = "left" ∨ x.side = "right") ∧ 1 ≤ x.far ∧ x.far ≤ 4 ∧ x.tag = Str.empty)
def more (x : G.Part) : PyData := if x.word = "call" then .str x.tag else if x.word = "clear" then .int 0 else if x.side = "right" then .int x.far else .int (-x.far)
def clauseOf (x : G.Part) : PyData := .tuple [.str x.word, .int x.over, .int x.by_, more x]
/-- the words of a clause -/
def wordsOf (x : G.Part) : List Str :=
  if x.word = "call" then ["call", x.tag, "on", M.strI x.over, "of", M.strI x.by_]
  else if x.word = "clear" then ["clear", M.strI x.over, "of", M.strI x.by_]
  else [x.word, M.strI x.over, "of", M.strI x.by_, x.side, M.strI x.far]
theorem clause_words (x : G.Part) : G.clause x = Txt.join sp (wordsOf x) := by
  have e1 : (("call " : String) : Str) = "call" ++ sp := by decide +kernel
  have e2 : ((" on " : String) : Str) = sp ++ ("on" ++ sp) := by decide +kernel
  have e3 : ((" of " : String) : Str) = sp ++ ("of" ++ sp) := by decide +kernel
  have e4 : (("clear " : String) : Str) = "clear" ++ sp := by decide +kernel
  have e5 : ((" " : String) : Str) = sp := rfl
  rw [TL.join_eq]
  unfold G.clause wordsOf G.ends
  split
  · show _ = ("call" : Str) ++ sp ++ (x.tag ++ sp ++ ("on" ++ sp ++ (M.strI x.over ++ sp ++ ("of" ++ sp ++ M.strI x.by_))))
    rw [e1, e2, e3]
    simp only [Str.append_assoc]
  · split
    · show _ = ("clear" : Str) ++ sp ++ (M.strI x.over ++ sp ++ ("of" ++ sp ++ M.strI x.by_))
      rw [e4, e3]
      simp only [Str.append_assoc]
    · show _ = x.word ++ sp ++ (M.strI x.over ++ sp ++ ("of" ++ sp ++ (M.strI x.by_ ++ sp ++ (x.side ++ sp ++ M.strI x.far))))
      rw [e3, e5]
      simp only [Str.append_assoc]
theorem words_plain {x : G.Part} (h : PartGood x) : ∀ y ∈ wordsOf x, Plain y := by
  have p1 := plain_dig (i := x.over) (by have := h.o; omega) (by have := h.o; have := h.b; omega)
  have p2 := plain_dig (i := x.by_) (by have := h.b; omega) (by have := h.b; omega)
  have q1 : Plain "call" := by unfold Plain; decide +kernel
  have q2 : Plain "on" := by unfold Plain; decide +kernel
  have q3 : Plain "of" := by unfold Plain; decide +kernel
  have q4 : Plain "clear" := by unfold Plain; decide +kernel
  have q5 : Plain "join" := by unfold Plain; decide +kernel
  have q6 : Plain "take" := by unfold Plain; decide +kernel
  have q7 : Plain "left" := by unfold Plain; decide +kernel
  have q8 : Plain "right" := by unfold Plain; decide +kernel
  unfold wordsOf
  rcases h.k with ⟨hw, hn, _, _⟩ | ⟨hw, _⟩ | ⟨hw, hs, f1, f4, _⟩
  · rw [if_pos hw]
    have p3 := plain_name hn
    intro y hy
    simp only [List.mem_cons, List.not_mem_nil, or_false] at hy
    rcases hy with rfl | rfl | rfl | rfl | rfl | rfl <;> assumption
  · rw [if_neg (by rw [hw]; decide +kernel), if_pos hw]
    intro y hy
    simp only [List.mem_cons, List.not_mem_nil, or_false] at hy
    rcases hy with rfl | rfl | rfl | rfl <;> assumption
  · rw [if_neg (by rcases hw with hw | hw <;> rw [hw] <;> decide +kernel), if_neg (by rcases hw with hw | hw <;> rw [hw] <;> decide +kernel)]
    have p3 := plain_dig (i := x.far) (by omega) (by omega)
    have p4 : Plain x.word := by rcases hw with hw | hw <;> rw [hw] <;> assumption
    have p5 : Plain x.side := by rcases hs with hs | hs <;> rw [hs] <;> assumption
    intro y hy
    simp only [List.mem_cons, List.not_mem_nil, or_false] at hy
    rcases hy with rfl | rfl | rfl | rfl | rfl | rfl <;> assumption
theorem words_ne (x : G.Part) : wordsOf x ≠ [] := by
  unfold wordsOf
  split
  · simp
  · split <;> simp
theorem clause_split {x : G.Part} (h : PartGood x) : Txt.split (G.clause x) " " = wordsOf x := by
  rw [clause_words]
  exact split_join (sep := sp) (c := 32) (r := []) sp_tl sp_256 (words_ne x) fun y hy => (words_plain h y hy).1
theorem clause_free {x : G.Part} (h : PartGood x) : 59 ∉ TL.tl (G.clause x) := by
  rw [clause_words]
  intro z
  rcases join_mem z with h1 | ⟨y, hy, h1⟩
  · rw [sp_tl] at h1
    simp at h1
  · exact (words_plain h y hy).2 h1
theorem clause_read {x : G.Part} (h : PartGood x) : M.readClause (G.clause x) = clauseOf x := by
  have hs := clause_split h
  have d1 : M.readDigit (M.strI x.by_) 1 3 = .int x.by_ := dig_in (by decide) h.b.1 h.b.2 (by decide)
  have d2 : M.readDigit (M.strI x.over) 0 (x.by_ - 1) = .int x.over := dig_in (by decide) h.o.1 (by have := h.o; omega) (by have := h.b; omega)
  have hc : M.readClass [M.strI x.over, "of", M.strI x.by_] = .tuple [.int x.over, .int x.by_] := by
    unfold M.readClass
    dsimp only
    rw [d1]
    dsimp only
    rw [d2]
    rfl
  unfold M.readClause
  rw [hs]
  unfold wordsOf clauseOf more
  rcases h.k with ⟨hw, hn, _, _⟩ | ⟨hw, _⟩ | ⟨hw, hsd, f1, f4, _⟩
  · rw [if_pos hw, if_pos hw, hw]
    dsimp only
    rw [if_neg (by decide +kernel), if_neg (by decide +kernel), if_pos (by decide +kernel)]
    rw [if_pos (by rw [hn]; decide +kernel)]
    show M.putClause _ (M.readClass [M.strI x.over, "of", M.strI x.by_]) _ = _
    rw [hc]
    rfl
  · have n1 : ¬ x.word = "call" := by rw [hw]; decide +kernel
    rw [if_neg n1, if_neg n1, if_pos hw, if_pos hw, hw]
    dsimp only
    rw [if_neg (by decide +kernel), if_pos (by decide +kernel)]
    show M.putClause _ (M.readClass [M.strI x.over, "of", M.strI x.by_]) _ = _
    rw [hc]
    rfl
  · have n1 : ¬ x.word = "call" := by rcases hw with hw | hw <;> rw [hw] <;> decide +kernel
    have n2 : ¬ x.word = "clear" := by rcases hw with hw | hw <;> rw [hw] <;> decide +kernel
    have n3 : inD (.str x.word) [.str "join", .str "take"] = true := by rcases hw with hw | hw <;> rw [hw] <;> decide +kernel
    rw [if_neg n1, if_neg n1, if_neg n2, if_neg n2]
    dsimp only
    rw [if_pos n3]
    show M.putClause _ (M.readClass [M.strI x.over, "of", M.strI x.by_]) (M.readWay [x.side, M.strI x.far]) = _
    have hwy : M.readWay [x.side, M.strI x.far] = if x.side = "right" then .int x.far else .int (-x.far) := by
      have d3 : M.readDigit (M.strI x.far) 1 4 = .int x.far := dig_in (by decide) f1 f4 (by decide)
      unfold M.readWay
      dsimp only
      rw [if_pos (by rcases hsd with hsd | hsd <;> rw [hsd] <;> decide +kernel), d3]
      dsimp only
      rcases hsd with hsd | hsd
      · rw [hsd, if_neg (by decide +kernel), if_neg (by decide +kernel)]
      · rw [hsd, if_pos (by decide +kernel), if_pos rfl]
    rw [hc, hwy]
    split <;> rfl
end N
/-! PH2: hazard_places. -/
namespace M
open PySem J L2
variable [KC]
/-- a clause that is no call, as it is read -/
structure Cz where
  w : Str
  e : Int
  d : Int
  f : Int
def Cz.dat (c : Cz) : PyData := .tuple [.str c.w, .int c.e, .int c.d, .int c.f]
def changedZ (cs : List Cz) (n : Int) : List Int := cs.flatMap fun c => doneP c.w c.e c.d c.f n
def sourcesZ (cs : List Cz) (n : Int) : List Int := cs.flatMap fun c => readP c.w c.e c.d c.f n
def hazP (cs : List Cz) (n : Int) : List Int := (changedZ cs n).filter fun p => decide (p ∈ sourcesZ cs n)
end M
namespace J
open PySem PySem.Spec
open PyProof.Rows L2
variable [KC]
theorem inD_ints (p : Int) (l : List Int) : inD (.int p) (l.map .int) = decide (p ∈ l) := by
  unfold inD
  rw [List.any_map]
  induction l with
  | nil => rfl
  | cons x xs ih =>
    rw [List.any_cons, ih]
    have e : (eqF (.int x) (.int p)) = decide (x = p) := rfl
    show (eqF (.int x) (.int p) || decide (p ∈ xs)) = _
    rw [e]
    by_cases h : x = p
    · rw [decide_eq_true h]
      simp [h]
    · rw [decide_eq_false h]
      have h2 : ¬ p = x := fun z => h z.symm
      simp [h2]
section
variable {w : World} {P : Program} {K : PySem.W.Frag} {base : Heap} {mg : Str → Option Value}
abbrev nHz : List Str := ["clauses", "size", "sources", "changed", "clause", "place"]
theorem scHz : FnScope nHz ["clauses", "size"] (defScope sHazardPlaces) := ⟨rfl, rfl, rfl, by decide +kernel, rfl, by decide +kernel, by decide +kernel⟩
def CallHd (cs : List PyData) : Prop := ∃ (e d : Int) (s : Str) (r : List PyData), cs = .tuple [.str "call", .int e, .int d, .str s] :: r
def cnHz : Con := fun rs μ r μ' => (∃ (cs : List PyData) (n : Int), rs = [Tp cs, Ii n] ∧ CallHd cs ∧ r = Ls [] ∧ μ' = μ) ∨ ∃ (c : M.Cz) (cs : List M.Cz) (n : Int), rs = [Tp ((c :: cs).map M.Cz.dat), Ii n] ∧ (c.w ≠ "call" ∧ (c :: cs).length ≤ 9 ∧ ∀ x ∈ c :: cs, Rg x.e n x.d ∧ (Builtin.Range.rangeSize x.e n x.d).toNat ≤ 100) ∧ r = Ls ((M.hazP (c :: cs) n).map .int) ∧ μ' = μ
theorem spots_len {e n d : Int} (h : (Builtin.Range.rangeSize e n d).toNat ≤ 100) : (M.spots e n d).length ≤ 100 := by
  unfold M.spots
  rw [List.length_map, List.length_range]
  exact h
theorem done_len {x : M.Cz} {n : Int} (h : (Builtin.Range.rangeSize x.e n x.d).toNat ≤ 100) : (M.doneP x.w x.e x.d x.f n).length ≤ 100 := Nat.le_trans (List.length_filter_le _ _) (spots_len h)
theorem read_len {x : M.Cz} {n : Int} (h : (Builtin.Range.rangeSize x.e n x.d).toNat ≤ 100) : (M.readP x.w x.e x.d x.f n).length ≤ 100 := by
  unfold M.readP
  split
  · exact Nat.zero_le _
  · rw [List.length_map]
    exact Nat.le_trans (List.length_filter_le _ _) (spots_len h)
theorem flat100 {α β : Type} (F : α → List β) : ∀ (l : List α), (∀ x ∈ l, (F x).length ≤ 100) → (l.flatMap F).length ≤ l.length * 100
  | [], _ => by simp
  | x :: xs, h => by
    have h1 := h x List.mem_cons_self
    have h2 := flat100 F xs fun y hy => h y (List.mem_cons_of_mem _ hy)
    rw [List.flatMap_cons, List.length_append, List.length_cons]
    omega
def zF (g : M.Cz → List Int) : PyData → List PyData
  | .tuple [.str w, .int e, .int d, .int f] => (g ⟨w, e, d, f⟩).map .int
  | _ => []
theorem zF_dat (g : M.Cz → List Int) (x : M.Cz) : zF g x.dat = (g x).map .int := rfl
theorem z_out (g : M.Cz → List Int) (xs : List M.Cz) : ((xs.map M.Cz.dat).flatMap fun d => (zF g d).map fun o => o) = (xs.flatMap g).map PyData.int := by
  rw [List.flatMap_map, List.map_flatMap]
  congr 1
  funext x
  rw [zF_dat, List.map_id']
theorem z_len (g : M.Cz → List Int) (xs : List M.Cz) (h9 : xs.length ≤ 9) (hg : ∀ x ∈ xs, (g x).length ≤ 100) (m : Nat) : (((xs.map M.Cz.dat).take m).flatMap fun d => (zF g d).map fun o => o).length ≤ 900 := by
  rw [← List.map_take, z_out, List.length_map]
  have := flat100 g (xs.take m) fun y hy => hg y (List.mem_of_mem_take hy)
  have h2 : (xs.take m).length ≤ xs.length := by rw [List.length_take]; omega
  omega
theorem cHz (T : Bt mg) (C1 : Cal P w K mg base "done_places" 2 ["clause", "size"] cnDon) (C2 : Cal P w K mg base "read_places" 2 ["clause", "size"] cnRea) (D : Df K mg "hazard_places" sHazardPlaces) : Cal P w K mg base "hazard_places" 3 ["clauses", "size"] cnHz := by
  refine D.cal scHz (fun _ _ _ _ _ _ us hl => match us, hl with | [_, _], _ => rfl) (by decide) (fun rs μ r μ' h => by rcases h with ⟨_, _, _, _, _, rfl⟩ | ⟨_, _, _, _, _, _, rfl⟩ <;> rfl) fun f cdv A outer s H E hr rs μ r μ' hC => ?_
  rcases hC with ⟨cs, n, rfl, ⟨e, d, s, rr, rfl⟩, rfl, rfl⟩ | ⟨c, cs, n, rfl, ⟨hw, hl9, hR⟩, rfl, rfl⟩
  · have a0 : ((PyData.tuple [.str "call", .int e, .int d, .str s] :: rr))[0]? = some (.tuple [.str "call", .int e, .int d, .str s]) := rfl
    have a1 : ([PyData.str "call", .int e, .int d, .str s])[0]? = some (.str "call") := rfl
    exact ST.ifYes (TV.eq (k' := true) (tEq (d := .str "call") (d2 := .str "call") (ixT (ixT (nm 0) EV.int (at_nat a0)) EV.int (at_nat a1)) EV.str) (by decide)) rfl (ST.retP (EVF.lst (ds := []) AV.nil).ev rfl)
  have a0 : ((c :: cs).map M.Cz.dat)[0]? = some c.dat := rfl
  have a1 : ([PyData.str c.w, .int c.e, .int c.d, .int c.f])[0]? = some (.str c.w) := rfl
  refine ST.ifR (TV.eq (k' := false) (tEq (d := .str c.w) (d2 := .str "call") (ixT (ixT (nm 0) EV.int (at_nat a0)) EV.int (at_nat a1)) EV.str) (by
    show (c.w == ("call" : Str)) = false
    exact beq_eq_false_iff_ne.mpr hw)) (fun hb => by cases hb) (fun hb => ?_)
  clear a0 a1 hw hb
  generalize c :: cs = xs at *
  have rl : ∀ x ∈ xs, (M.readP x.w x.e x.d x.f n).length ≤ 100 := fun x hx => read_len (hR x hx).2
  have dl' : ∀ x ∈ xs, (M.doneP x.w x.e x.d x.f n).length ≤ 100 := fun x hx => done_len (hR x hx).2
  refine ST.set (i := 2) (r := Ls ((M.sourcesZ xs n).map .int)) (EV.eq (LCV2.evf (own := [("clause", 4), ("place", 5)]) (vs1 := [5]) (zF fun x => M.readP x.w x.e x.d x.f n) (fun _ o => o) (IV.tup (nm 0)) rfl scHz.nd (blkOk_by (N := nHz) (sc := defScope sHazardPlaces) (by decide +kernel)) (by simp) (fun d hd => ?_) (fun m => Nat.le_trans (z_len _ xs hl9 rl m) (by decide)) (fun m d hd m2 => ?_)).ev (congrArg Ls (z_out _ xs))) scHz.nd rfl (by first | exact Or.inl rfl | exact Or.inr rfl) ?_
  · obtain ⟨x, hx, rfl⟩ := List.mem_map.mp hd
    refine ⟨_, fun _ _ _ _ _ => GV.name (i := 4) scHz.nd rfl (by first | exact Or.inl rfl | exact Or.inr rfl) (by simp), fun _ _ _ _ _ => IV.lst (EV.call C2 hr (AV.cons (nm 4) (AV.cons (nm 1) AV.nil)) ⟨x.w, x.e, x.d, x.f, n, rfl, (hR x hx).1, rfl, rfl⟩), fun o ho => ⟨_, fun _ _ _ _ _ => GV.name (i := 5) scHz.nd rfl (by first | exact Or.inl rfl | exact Or.inr rfl) (by simp), fun _ _ _ _ _ => nm 5⟩⟩
  · obtain ⟨x, hx, rfl⟩ := List.mem_map.mp hd
    have h1 := z_len _ xs hl9 rl m
    have h2 := rl x hx
    by_cases hm : m2 ≤ 100
    · exact .inl (by omega)
    · refine .inr ?_
      rw [zF_dat, List.length_map]
      omega
  refine ST.lc2 (i0 := 3) (x0 := "changed") (own := [("clause", 4), ("place", 5)]) (vs1 := [5]) (zF fun x => M.doneP x.w x.e x.d x.f n) (fun _ o => o) (IV.tup (nm 0)) rfl scHz.nd rfl rfl (blkOk_by (N := nHz) (sc := defScope sHazardPlaces) (by decide +kernel)) (by simp) (fun d hd => ?_) (fun m => Nat.le_trans (z_len _ xs hl9 dl' m) (by decide)) (fun m d hd m2 => ?_) ?_ rfl
  · obtain ⟨x, hx, rfl⟩ := List.mem_map.mp hd
    refine ⟨_, fun _ _ _ _ _ => GV.name (i := 4) scHz.nd rfl (by first | exact Or.inl rfl | exact Or.inr rfl) (by simp), fun _ _ _ _ _ => IV.lst (EV.call C1 hr (AV.cons (nm 4) (AV.cons (nm 1) AV.nil)) ⟨x.w, x.e, x.d, x.f, n, rfl, (hR x hx).1, rfl, rfl⟩), fun o ho => ⟨_, fun _ _ _ _ _ => GV.name (i := 5) scHz.nd rfl (by first | exact Or.inl rfl | exact Or.inr rfl) (by simp), fun _ _ _ _ _ => nm 5⟩⟩
  · obtain ⟨x, hx, rfl⟩ := List.mem_map.mp hd
    have h1 := z_len _ xs hl9 dl' m
    have h2 := dl' x hx
    by_cases hm : m2 ≤ 100
    · exact .inl (by omega)
    · refine .inr ?_
      rw [zF_dat, List.length_map]
      omega
  rw [z_out]
  have hcl : (xs.flatMap fun x => M.doneP x.w x.e x.d x.f n).length ≤ 900 := by
    have := flat100 (fun x : M.Cz => M.doneP x.w x.e x.d x.f n) xs dl'
    omega
  refine ST.retP (LCV.evf (own := [("place", 5)]) (LCV.filtMap (bs := M.changedZ xs n) .int .int (fun p => decide (p ∈ M.sourcesZ xs n)) (IV.lst (nm 3)) (fun p hp => ⟨_, fun _ _ _ _ _ => GV.name (i := 5) scHz.nd rfl (Or.inl rfl) (by simp), fun _ _ _ _ _ => TV.eq (tInL (nm 5) (nm 2) rfl (by rw [List.all_map]; exact List.all_eq_true.mpr fun _ _ => rfl)) (inD_ints p _), fun _ _ _ _ _ => nm 5⟩) (Nat.le_trans hcl (by decide))) rfl scHz.nd (blkOk_by (N := nHz) (sc := defScope sHazardPlaces) (by decide +kernel))).ev rfl
end
end J
/-! N1: texts joined and split. -/
namespace N
open PySem J L2
variable [KC]
theorem join_flat {α : Type} (sep : Str) (f : α → List Str) : ∀ (xs : List α), (∀ x ∈ xs, f x ≠ []) → Str.join sep (xs.map fun x => Str.join sep (f x)) = Str.join sep (xs.flatMap f)
  | [], _ => rfl
  | [x], _ => by simp [Str.join]
  | x :: y :: xs, h => by
    have ih := join_flat sep f (y :: xs) fun z hz => h z (List.mem_cons_of_mem _ hz)
    have hy : (y :: xs).flatMap f ≠ [] := by
      rw [List.flatMap_cons]
      intro z
      exact h y (by simp) (List.append_eq_nil_iff.mp z).1
    have app : ∀ (as bs : List Str), as ≠ [] → bs ≠ [] → Str.join sep (as ++ bs) = Str.join sep as ++ sep ++ Str.join sep bs := by
      intro as
      induction as with
      | nil => intro bs h; exact absurd rfl h
      | cons a as ih =>
        intro bs _ hb
        cases as with
        | nil =>
          cases bs with
          | nil => exact absurd rfl hb
          | cons b bs => rfl
        | cons a2 as =>
          have := ih bs (List.cons_ne_nil _ _) hb
          show a ++ sep ++ Str.join sep ((a2 :: as) ++ bs) = (a ++ sep ++ Str.join sep (a2 :: as)) ++ sep ++ Str.join sep bs
          rw [this]
          simp only [Str.append_assoc]
    rw [List.flatMap_cons, app _ _ (h x List.mem_cons_self) hy, ← ih]
    rfl
end N
/-! N3: drawn rounds are read and stand. -/
namespace N
open PySem J L2
variable [KC]
structure RoundGood (lower tags : List Str) (r : List G.Part) : Prop where
  len : 1 ≤ r.length ∧ r.length ≤ 3
  good : ∀ x ∈ r, PartGood x
  by_ : ∃ b, ∀ x ∈ r, x.by_ = b
  nd : (r.map (·.over)).Nodup
  calls : (∀ x ∈ r, x.word = "call" ∧ x.tag ∈ (if x.by_ = 1 then lower else tags)) ∨ (∀ x ∈ r, x.word ≠ "call")
theorem line_split {r : List G.Part} (hne : r ≠ []) (h : ∀ x ∈ r, PartGood x) : Txt.split (G.line r) "; " = r.map G.clause := by
  unfold G.line
  refine split_join (c := 59) (r := [32]) (by decide +kernel) (by decide +kernel) (by simpa using hne) fun y hy => ?_
  obtain ⟨x, hx, rfl⟩ := List.mem_map.mp hy
  exact clause_free (h x hx)
theorem clause_none (x : G.Part) : isNone (clauseOf x) = false := rfl
theorem share_no {x y : G.Part} {b : Int} (hx : x.by_ = b) (hy : y.by_ = b) (hn : x.over ≠ y.over) : M.share (clauseOf x) (clauseOf y) = false := by
  show (rngD 0 (x.by_ * y.by_).toNat).any (M.hit x.over x.by_ y.over y.by_) = false
  rw [List.any_eq_false]
  intro d hd z
  unfold rngD at hd
  obtain ⟨k, _, rfl⟩ := List.mem_map.mp hd
  have z' : (((0 + (k : Int)) % x.by_ == x.over) && ((0 + (k : Int)) % y.by_ == y.over)) = true := z
  rw [Bool.and_eq_true, hx, hy] at z'
  exact hn ((eq_of_beq z'.1).symm.trans (eq_of_beq z'.2))
theorem cut_to {cs : List PyData} {i : Nat} : cutD cs none (some (i : Int)) = cs.take (min i cs.length) := by
  unfold cutD
  rw [HT.sIx_nat, HT.sIx_none, List.drop_zero, Nat.sub_zero]
theorem fit_yes {lower tags : List Str} {r : List G.Part} (h : RoundGood lower tags r) : M.fit (r.map clauseOf) = true := by
  have hc : ∀ x : G.Part, M.isCall (clauseOf x) = (x.word == "call") := fun x => rfl
  have e1 : (((r.map clauseOf).map M.isCall).any id && !(((r.map clauseOf).map M.isCall).all id)) = false := by
    rw [List.map_map]
    rcases h.calls with hk | hk
    · have : (r.map (M.isCall ∘ clauseOf)).all id = true := by
        rw [List.all_map, List.all_eq_true]
        intro x hx
        show M.isCall (clauseOf x) = true
        rw [hc, (hk x hx).1]
        exact beq_self_eq_true _
      rw [this]
      simp
    · have : (r.map (M.isCall ∘ clauseOf)).any id = false := by
        rw [List.any_map, List.any_eq_false]
        intro x hx z
        have z' : M.isCall (clauseOf x) = true := z
        rw [hc] at z'
        exact hk x hx (eq_of_beq z')
      rw [this]
      simp
  unfold M.fit
  rw [if_neg (by rw [e1]; exact Bool.false_ne_true), Bool.not_eq_true', List.any_eq_false]
  intro v hv z
  obtain ⟨d, hd, hv2⟩ := List.mem_flatMap.mp hv
  obtain ⟨o, ho, rfl⟩ := List.mem_map.mp hv2
  obtain ⟨i, c, hci, rfl⟩ := enD_mem hd
  have z' : M.share c o = true := z
  have e0 : ((0 + i : Nat) : Int) = (i : Int) := by omega
  have ho' : o ∈ cutD (r.map clauseOf) none (some ((0 + i : Nat) : Int)) := ho
  rw [e0, cut_to] at ho'
  obtain ⟨j, hj, ej⟩ := List.mem_take_iff_getElem.mp ho'
  rw [List.getElem?_map] at hci
  cases q : r[i]? with
  | none => rw [q] at hci; cases hci
  | some x =>
    rw [q] at hci
    have ec : clauseOf x = c := by simpa using hci
    have hjl : j < r.length := by
      have : j < min (min i (r.map clauseOf).length) (r.map clauseOf).length := hj
      rw [List.length_map] at this
      omega
    have hji : j < i := by
      have : j < min (min i (r.map clauseOf).length) (r.map clauseOf).length := hj
      omega
    rw [List.getElem_map] at ej
    obtain ⟨hil, ei⟩ := List.getElem?_eq_some_iff.mp q
    obtain ⟨b, hb⟩ := h.by_
    rw [← ec, ← ej, share_no (hb _ (List.mem_iff_getElem?.mpr ⟨i, q⟩)) (hb _ (List.getElem_mem hjl)) ?_] at z'
    · cases z'
    · have hp := List.pairwise_iff_getElem.mp h.nd j i (by simpa using hjl) (by simpa using hil) hji
      rw [List.getElem_map, List.getElem_map] at hp
      rw [← ei]
      exact fun w => hp w.symm
theorem round_read {lower tags : List Str} {r : List G.Part} (h : RoundGood lower tags r) : M.readRound (.str (G.line r)) = .tuple (r.map clauseOf) := by
  have hne : r ≠ [] := fun z => by have := h.len.1; rw [z] at this; simp at this
  have e : (Txt.split (G.line r) "; ").map M.readClause = r.map clauseOf := by
    rw [line_split hne h.good, List.map_map]
    exact List.map_congr_left fun x hx => clause_read (h.good x hx)
  unfold M.readRound
  dsimp only
  rw [e, if_neg (by rw [List.length_map]; have := h.len; omega), if_neg, if_pos (fit_yes h)]
  rw [List.any_map]
  intro z
  obtain ⟨x, _, hx⟩ := List.any_eq_true.mp z
  cases hx
theorem cut_from {l : List Str} {i : Nat} : M.cutL l (some ((i : Int) + 1)) none = l.drop (i + 1) := by
  unfold M.cutL
  have e : HT.sIx l.length 0 (some ((i : Int) + 1)) = min (i + 1) l.length := HT.sIx_nat l.length 0 (i + 1)
  rw [e, HT.sIx_none]
  by_cases h : i + 1 ≤ l.length
  · rw [Nat.min_eq_left h, List.take_of_length_le (by simp)]
  · rw [Nat.min_eq_right (by omega), List.drop_of_length_le (Nat.le_refl _), List.drop_of_length_le (by omega), List.take_nil]
theorem cut_all {l : List Str} : M.cutL l (some 0) none = l := by
  unfold M.cutL
  have e : HT.sIx l.length 0 (some 0) = min 0 l.length := HT.sIx_nat l.length 0 0
  rw [e, HT.sIx_none]
  simp
theorem round_stands {tags : List Str} {i : Nat} {r : List G.Part} (h : RoundGood (tags.drop (i + 1)) tags r) : M.canStand (.str (G.line r)) tags (i : Int) = true := by
  unfold M.canStand
  rw [round_read h]
  dsimp only
  rw [List.all_map, List.all_eq_true]
  intro x hx
  show (!(x.word == "call" && !inD (more x) ((M.cutL tags (some (if x.by_ == 1 then (i : Int) + 1 else 0)) none).map .str))) = true
  rcases h.calls with hk | hk
  · obtain ⟨h1, h2⟩ := hk x hx
    have em : more x = .str x.tag := if_pos h1
    rw [em, inD_strs]
    have : x.tag ∈ M.cutL tags (some (if x.by_ == 1 then (i : Int) + 1 else 0)) none := by
      by_cases hb : x.by_ = 1
      · rw [if_pos hb] at h2
        rw [if_pos (by rw [hb]; rfl), cut_from]
        exact h2
      · rw [if_neg hb] at h2
        rw [if_neg (by simpa using hb), cut_all]
        exact h2
    rw [decide_eq_true this]
    simp
  · have : (x.word == "call") = false := beq_eq_false_iff_ne.mpr (hk x hx)
    rw [this]
    rfl
/-! ### what is drawn -/
end N
/-! NK: what can be shown. -/
namespace N
open PySem J L2
variable [KC]
/-- signs below 256 alone -/
def Lo (s : Str) : Prop := ∀ c ∈ TL.tl s, c < 256
theorem lo_ok {s : Str} (h : Lo s) : PyData.strOk s = true := by
  unfold PyData.strOk
  rw [← Array.all_toList, List.all_eq_true]
  intro c hc
  have := h c hc
  exact decide_eq_true (by omega)
theorem lo_join {sep : Str} {ys : List Str} (h1 : Lo sep) (h2 : ∀ y ∈ ys, Lo y) : Lo (Txt.join sep ys) := fun c hc => by
  rcases join_mem hc with z | ⟨y, hy, z⟩
  · exact h1 c z
  · exact h2 y hy c z
theorem lo_name {s : Str} (h : M.nameOk s = true) : Lo s := fun c hc => by
  have := name_free h c hc
  omega
theorem lo_dig {i : Int} (h0 : 0 ≤ i) (h9 : i ≤ 9) : Lo (M.strI i) := by
  have h : ∀ k : Fin 10, ∀ c ∈ TL.tl (M.strI (k.val : Int)), c < 256 := by decide +kernel
  have := h ⟨i.toNat, by omega⟩
  rwa [show ((i.toNat : Nat) : Int) = i by omega] at this
/-- small enough to be shown -/
structure Sm (a b : Nat) (d : PyData) : Prop where
  lay : d.canLay0 = true
  shw : d.showable = true
  dep : d.depth ≤ a
  len : rlen d ≤ b
theorem Sm.str {s : Str} {n : Nat} (h : Lo s) (hl : s.length ≤ n) : Sm 0 (10 * n + 2) (.str s) := ⟨by simp [PyData.canLay0, lo_ok h], by simp [PyData.showable], by simp [PyData.depth], by simp only [rlen]; omega⟩
theorem Sm.int {i : Int} (h0 : 0 ≤ i) (h9 : i ≤ 9) : Sm 0 1 (.int i) := ⟨rfl, by simp only [PyData.showable]; exact decide_eq_true (log_dig ⟨h0, h9⟩), by simp [PyData.depth], by simp only [rlen]; exact Nat.le_of_eq (strI_len i h0 h9)⟩
theorem Sm.mono {a b a2 b2 : Nat} {d : PyData} (h : Sm a b d) (h1 : a ≤ a2) (h2 : b ≤ b2) : Sm a2 b2 d := ⟨h.lay, h.shw, Nat.le_trans h.dep h1, Nat.le_trans h.len h2⟩
theorem sm_all {a b : Nat} : ∀ {xs : List PyData}, (∀ x ∈ xs, Sm a b x) → PyData.canLayAll0 xs = true ∧ PyData.showableAll xs = true ∧ PyData.depthAll xs ≤ a ∧ rlenAll xs ≤ xs.length * (b + 2)
  | [], _ => ⟨rfl, rfl, by simp [PyData.depthAll], Nat.zero_le _⟩
  | x :: xs, h => by
    obtain ⟨h1, h2, h3, h4⟩ := sm_all (xs := xs) fun y hy => h y (List.mem_cons_of_mem _ hy)
    have g := h x List.mem_cons_self
    have g3 := g.dep
    have g4 := g.len
    refine ⟨by simp [PyData.canLayAll0, h1, g.lay], by simp [PyData.showableAll, h2, g.shw], by simp only [PyData.depthAll]; omega, ?_⟩
    simp only [rlenAll, List.length_cons]
    rw [Nat.add_mul]
    omega
theorem Sm.list {a b n : Nat} {xs : List PyData} (h : ∀ x ∈ xs, Sm a b x) (hn : xs.length ≤ n) : Sm (a + 1) (3 + n * (b + 2)) (.list xs) := by
  obtain ⟨h1, h2, h3, h4⟩ := sm_all h
  have : xs.length * (b + 2) ≤ n * (b + 2) := Nat.mul_le_mul_right _ hn
  exact ⟨by simp only [PyData.canLay0]; exact h1, by simp only [PyData.showable]; exact h2, by simp only [PyData.depth]; omega, by simp only [rlen]; omega⟩
theorem Sm.tuple {a b n : Nat} {xs : List PyData} (h : ∀ x ∈ xs, Sm a b x) (hn : xs.length ≤ n) : Sm (a + 1) (3 + n * (b + 2)) (.tuple xs) := by
  obtain ⟨h1, h2, h3, h4⟩ := sm_all h
  have : xs.length * (b + 2) ≤ n * (b + 2) := Nat.mul_le_mul_right _ hn
  exact ⟨by simp only [PyData.canLay0]; exact h1, by simp only [PyData.showable]; exact h2, by simp only [PyData.depth]; omega, by simp only [rlen]; omega⟩
theorem Sm.shwD {a b : Nat} {d : PyData} (h : Sm a b d) (h1 : isSeq d = true) (h2 : a ≤ 60) (h3 : b ≤ 10000000) : Shw d := ⟨h1, h.lay, h.shw, Nat.le_trans h.dep h2, Nat.le_trans h.len h3⟩
theorem Sm.sho {a b : Nat} {d : PyData} (h : Sm a b d) (h1 : isSeq d = true) (h2 : a ≤ 60) (h3 : b ≤ 10000000) : Sho d := (h.shwD h1 h2 h3).sho
end N
/-! LP: parts that can be written. -/
namespace G
open PySem J
variable [KC]
structure PartOk (x : Part) : Prop where
  o : 0 ≤ x.over ∧ x.over ≤ 9
  b : 0 ≤ x.by_ ∧ x.by_ ≤ 9
  f : 0 ≤ x.far ∧ x.far ≤ 9
  w : x.word.length ≤ 8
  s : x.side.length ≤ 8
  t : x.tag.length ≤ 8
end G
namespace J
open PySem PySem.Spec
open PyProof.Rows L2
variable [KC]
theorem ends_len {x : G.Part} (h : G.PartOk x) : (G.ends x).length = 6 := by
  unfold G.ends
  have e1 : (((" of " : String) : Str)).length = 4 := by decide +kernel
  rw [strLen_append, strLen_append, strI_len _ h.o.1 h.o.2, strI_len _ h.b.1 h.b.2, e1]
theorem clause_len {x : G.Part} (h : G.PartOk x) : (G.clause x).length ≤ 60 := by
  have he := ends_len h
  have h1 := h.w
  have h2 := h.s
  have h3 := h.t
  have h4 := strI_len _ h.f.1 h.f.2
  have e1 : ((("call " : String) : Str)).length = 5 := by decide +kernel
  have e2 : (((" on " : String) : Str)).length = 4 := by decide +kernel
  have e3 : ((("clear " : String) : Str)).length = 6 := by decide +kernel
  have e4 : (((" " : String) : Str)).length = 1 := by decide +kernel
  unfold G.clause
  split
  · rw [strLen_append, strLen_append, strLen_append]
    omega
  · split
    · rw [strLen_append]
      omega
    · rw [strLen_append, strLen_append, strLen_append, strLen_append, strLen_append, strLen_append]
      omega
theorem line_sum {r : List G.Part} (hl : r.length ≤ 9) (h : ∀ y ∈ r, G.PartOk y) : ((r.map G.clause).map (·.length)).sum + (r.map G.clause).length * (((("; " : String) : Str)).length) ≤ 600 := by
  have e1 : ((("; " : String) : Str)).length = 2 := by decide +kernel
  have h1 : ((r.map G.clause).map (·.length)).sum ≤ (r.map G.clause).length * 60 := sum_le _ _ _ fun x hx => by
    obtain ⟨y, hy, rfl⟩ := List.mem_map.mp hx
    exact clause_len (h y hy)
  rw [List.length_map] at h1 ⊢
  rw [e1]
  omega
theorem line_len {r : List G.Part} (hl : r.length ≤ 9) (h : ∀ y ∈ r, G.PartOk y) : (G.line r).length ≤ 600 := Nat.le_trans (join_le _ _) (line_sum hl h)
end J
/-! NL: the texts of good parts. -/
namespace N
open PySem J L2
variable [KC]
theorem part_ok {x : G.Part} (h : PartGood x) : G.PartOk x := by
  have e0 : (Str.empty).length = 0 := by decide +kernel
  have e1 : ((("call" : String) : Str)).length = 4 := by decide +kernel
  have e2 : ((("clear" : String) : Str)).length = 5 := by decide +kernel
  have e3 : ((("join" : String) : Str)).length = 4 := by decide +kernel
  have e4 : ((("take" : String) : Str)).length = 4 := by decide +kernel
  have e5 : ((("left" : String) : Str)).length = 4 := by decide +kernel
  have e6 : ((("right" : String) : Str)).length = 5 := by decide +kernel
  have hb := h.b
  have ho := h.o
  rcases h.k with ⟨a, b, c, d⟩ | ⟨a, b, c, d⟩ | ⟨a, b, c, d, e⟩
  · have := (M.name_signs b).2.1
    exact ⟨by omega, by omega, by omega, by rw [a]; omega, by rw [d]; omega, by omega⟩
  · exact ⟨by omega, by omega, by omega, by rw [a]; omega, by rw [c]; omega, by rw [d]; omega⟩
  · refine ⟨by omega, by omega, by omega, ?_, ?_, by rw [e]; omega⟩
    · rcases a with a | a <;> rw [a] <;> omega
    · rcases b with b | b <;> rw [b] <;> omega
theorem lo_words {x : G.Part} (h : PartGood x) : ∀ y ∈ wordsOf x, Lo y := by
  have p1 := lo_dig (i := x.over) (by have := h.o; omega) (by have := h.o; have := h.b; omega)
  have p2 := lo_dig (i := x.by_) (by have := h.b; omega) (by have := h.b; omega)
  have q1 : Lo "call" := by unfold Lo; decide +kernel
  have q2 : Lo "on" := by unfold Lo; decide +kernel
  have q3 : Lo "of" := by unfold Lo; decide +kernel
  have q4 : Lo "clear" := by unfold Lo; decide +kernel
  have q5 : Lo "join" := by unfold Lo; decide +kernel
  have q6 : Lo "take" := by unfold Lo; decide +kernel
  have q7 : Lo "left" := by unfold Lo; decide +kernel
  have q8 : Lo "right" := by unfold Lo; decide +kernel
  unfold wordsOf
  rcases h.k with ⟨hw, hn, _, _⟩ | ⟨hw, _⟩ | ⟨hw, hs, f1, f4, _⟩
  · rw [if_pos hw]
    have p3 := lo_name hn
    intro y hy
    simp only [List.mem_cons, List.not_mem_nil, or_false] at hy
    rcases hy with rfl | rfl | rfl | rfl | rfl | rfl <;> assumption
  · rw [if_neg (by rw [hw]; decide +kernel), if_pos hw]
    intro y hy
    simp only [List.mem_cons, List.not_mem_nil, or_false] at hy
    rcases hy with rfl | rfl | rfl | rfl <;> assumption
  · rw [if_neg (by rcases hw with hw | hw <;> rw [hw] <;> decide +kernel), if_neg (by rcases hw with hw | hw <;> rw [hw] <;> decide +kernel)]
    have p3 := lo_dig (i := x.far) (by omega) (by omega)
    have p4 : Lo x.word := by rcases hw with hw | hw <;> rw [hw] <;> assumption
    have p5 : Lo x.side := by rcases hs with hs | hs <;> rw [hs] <;> assumption
    intro y hy
    simp only [List.mem_cons, List.not_mem_nil, or_false] at hy
    rcases hy with rfl | rfl | rfl | rfl | rfl | rfl <;> assumption
theorem lo_lines {r : List G.Part} (h : ∀ x ∈ r, PartGood x) : Lo (G.line r) := by
  refine lo_join (by unfold Lo; decide +kernel) fun y hy => ?_
  obtain ⟨x, hx, rfl⟩ := List.mem_map.mp hy
  rw [clause_words]
  exact lo_join (by unfold Lo; decide +kernel) (lo_words (h x hx))
end N
/-! N4: nothing is drawn here. -/
/-! N5: drawn plans can be shown. -/
namespace N
open PySem J L2
variable [KC]
theorem lo_line {lower tags : List Str} {r : List G.Part} (h : RoundGood lower tags r) : Lo (G.line r) := by
  refine lo_join (by unfold Lo; decide +kernel) fun y hy => ?_
  obtain ⟨x, hx, rfl⟩ := List.mem_map.mp hy
  rw [clause_words]
  exact lo_join (by unfold Lo; decide +kernel) (lo_words (h.good x hx))
theorem lo_goal {g : Str} (h : M.isGoal (.str g) = true) : Lo g := by
  have h2 : inD (.str g) ([.str "all", .str "before"] ++ M.lasts) = true := h
  have h3 : g = "all" ∨ g = "before" ∨ g = "last 1" ∨ g = "last 2" ∨ g = "last 3" ∨ g = "last 4" := by
    have e : ([PyData.str "all", .str "before"] ++ M.lasts) = (["all", "before", "last 1", "last 2", "last 3", "last 4"] : List Str).map .str := rfl
    rw [e, inD_strs] at h2
    simpa using h2
  rcases h3 with rfl | rfl | rfl | rfl | rfl | rfl <;> unfold Lo <;> decide +kernel
end N
/-! MS2: ranges with a step, of any length. -/
namespace J
open PySem PySem.Spec
open PyProof.Rows L2
variable [KC]
theorem size_le {e n d : Int} (he : 0 ≤ e) (hd : 1 ≤ d) (hn : 0 ≤ n) : 0 ≤ Builtin.Range.rangeSize e n d ∧ Builtin.Range.rangeSize e n d ≤ n ∧ (0 < Builtin.Range.rangeSize e n d → e + (Builtin.Range.rangeSize e n d - 1) * d < n) := by
  unfold Builtin.Range.rangeSize
  rw [if_pos (by omega)]
  split
  · have h1 : 0 ≤ (n - e - 1) / d := Int.ediv_nonneg (by omega) (by omega)
    have h2 : (n - e - 1) / d ≤ n - e - 1 := Int.ediv_le_self _ (by omega)
    have h3 : (n - e - 1) / d * d ≤ n - e - 1 := Int.ediv_mul_le _ (by omega)
    refine ⟨by omega, by omega, fun _ => ?_⟩
    rw [show (n - e - 1) / d + 1 - 1 = (n - e - 1) / d by omega]
    omega
  · exact ⟨Int.le_refl 0, hn, fun z => absurd z (by decide)⟩
theorem rg_gen {e n d : Int} (he : 0 ≤ e ∧ e ≤ 100) (hd : 1 ≤ d ∧ d ≤ 100) (hn : 0 ≤ n ∧ n ≤ 100000) : RgC e n d (Builtin.Range.rangeSize e n d).toNat ∧ (Builtin.Range.rangeSize e n d).toNat ≤ n.toNat := by
  obtain ⟨h1, h2, h3⟩ := size_le he.1 hd.1 hn.1
  refine ⟨⟨by omega, by omega, ?_, (Int.toNat_of_nonneg h1).symm⟩, by omega⟩
  unfold Builtin.Range.small
  generalize hz : Builtin.Range.rangeSize e n d = z at *
  simp only [Builtin.Range.rangeFitsLong, Bool.and_eq_true, Bool.or_eq_true, decide_eq_true_eq, beq_iff_eq, show d > 0 by omega, if_true]
  omega
end J
/-! J37: data with dicts: displays without entries, repr. -/
namespace J
open PySem PySem.Spec
open PyProof.Rows L2
variable [KC]
def atomK : PyData → Bool
  | .int _ => true
  | .str x => PyData.strOk x
  | _ => false
mutual
def lay2 : PyData → Bool
  | .none | .bool _ | .int _ => true
  | .str x => PyData.strOk x
  | .list xs | .tuple xs => lay2All xs
  | .dict kvs => lay2Kv kvs
def lay2All : List PyData → Bool
  | [] => true
  | x :: xs => lay2 x && lay2All xs
def lay2Kv : List (PyData × PyData) → Bool
  | [] => true
  | (k, v) :: r => atomK k && lay2 v && lay2Kv r
end
mutual
theorem lay2_of : ∀ d : PyData, d.canLay0 = true → lay2 d = true
  | .none, _ | .bool _, _ | .int _, _ => by simp only [lay2]
  | .str x, h => by simpa only [lay2, PyData.canLay0] using h
  | .list xs, h => by
    simp only [PyData.canLay0] at h
    simp only [lay2]
    exact lay2All_of xs h
  | .tuple xs, h => by
    simp only [PyData.canLay0] at h
    simp only [lay2]
    exact lay2All_of xs h
  | .dict _, h => by simp [PyData.canLay0] at h
theorem lay2All_of : ∀ xs : List PyData, PyData.canLayAll0 xs = true → lay2All xs = true
  | [], _ => by simp only [lay2All]
  | x :: xs, h => by
    simp only [PyData.canLayAll0, Bool.and_eq_true] at h
    simp only [lay2All, lay2_of x h.1, lay2All_of xs h.2, Bool.and_self]
end
/-- the entries of a dict, one by one -/
def DkAll (H : Hp) : List (Key × V) → List (PyData × PyData) → Prop
  | [], [] => True
  | (k, v) :: r, (kd, vd) :: r2 => kd = keyD k ∧ Dq H v vd ∧ DkAll H r r2
  | _, _ => False
theorem dkAll_of {H : Hp} : ∀ {kvs : List (Key × V)} {ds : List PyData}, DqAll H (kvs.map (·.2)) ds → DkAll H kvs (((kvs.map (·.1)).map keyD).zip ds)
  | [], ds, h => by
    cases h
    trivial
  | (k, v) :: r, ds, h => by
    cases h with
    | cons h1 h2 => exact ⟨rfl, h1, dkAll_of h2⟩
theorem dq_dict {H : Hp} {v : V} {l : List (PyData × PyData)} (h : Dq H v (.dict l)) (hl : lay2Kv l = true) : ∃ a kvs, v = .ref a ∧ H a = some (.dK kvs) ∧ DkAll H kvs l := by
  generalize e : PyData.dict l = d at h
  cases h with
  | @dic a kvs ks ds hx hn hd =>
    injection e with e
    subst e
    subst hn
    exact ⟨a, kvs, rfl, hx, dkAll_of hd⟩
  | ins hx hn hd =>
    injection e with e
    subst e
    simp [lay2Kv, atomK] at hl
  | _ => cases e
section
variable {X : Cx} {pins : List (Addr × Obj)} {σ : L2.St} {H : Hp} {s : Shared}
theorem readsKeys : ∀ {kvs : List (Key × V)} {l : List (PyData × PyData)} {vs : List (Key × Value)} {es : List DictEntry}, DkAll H kvs l → KV kvs vs → Pairs (mixKind X.prog X.w) es vs → ReadsAll s.heap (es.map (·.key)) (l.map (·.1)) []
  | [], [], _, _, _, h1, h2 => by
    cases h1
    cases h2
    exact .nil
  | (k, v) :: r, (kd, vd) :: r2, _, _, ⟨e, _, h⟩, .cons h1 h1', .cons h2 h2' h2'' => by
    have ih := readsKeys h h1' h2''
    have e1 : k = _ := h1.1
    subst e
    rw [← h1.1] at h2
    rcases keyIs_shape h2 with ⟨i, t, rfl, e3⟩ | ⟨x, t, rfl, e3⟩
    · exact ReadsAll.cons (as := []) (bs := []) (by show Reads s.heap _ (PyData.int i) []; dsimp only; rw [e3]; exact Reads.int i t) ih
    · exact ReadsAll.cons (as := []) (bs := []) (by show Reads s.heap _ (PyData.str x) []; dsimp only; rw [e3]; exact Reads.str x t) ih
  | [], _ :: _, _, _, h, _, _ => h.elim
  | _ :: _, [], _, _, h, _, _ => h.elim
theorem rk_atom {d : PyData} {u : Value} {P : Program} {w : World} {h : Heap} (r : Reads h u d []) (hs : d.showable = true) (hd : d.hasDict = false) (hz : d.shown.length ≤ sizeLine) : ∃ as bs, Reads h u d as ∧ ReadAtMost h d.depth bs ∧ ReprK P w bs h d.depth u d.shown :=
  (ReprK.of_reads r hs (fun z => by rw [hd] at z; cases z) hz).elim fun bs z => ⟨_, bs, r, z.1, z.2⟩
mutual
theorem Dq.rk (ck : CkK X.K) (I : Inv X pins σ H s) : ∀ (d : PyData) (v : V) (u : Value), Dq H v d → lay2 d = true → d.showable = true → d.shown.length ≤ sizeLine → RelV v u → ∃ as bs, Reads s.heap u d as ∧ ReadAtMost s.heap d.depth bs ∧ ReprK X.prog X.w bs s.heap d.depth u d.shown
  | .none, _, _, h, _, hs, hz, r => by
    cases h
    cases r
    exact rk_atom Reads.none hs rfl hz
  | .bool b, _, _, h, _, hs, hz, r => by
    cases h
    cases r
    exact rk_atom (Reads.bool b) hs rfl hz
  | .int i, _, _, h, _, hs, hz, r => by
    cases h
    obtain ⟨t, rfl⟩ := r
    exact rk_atom (Reads.int i t) hs rfl hz
  | .str x, _, _, h, _, hs, hz, r => by
    cases h
    obtain ⟨t, rfl⟩ := r
    exact rk_atom (Reads.str x t) hs rfl hz
  | .list ds, _, _, h, c, hs, hz, r => by
    have hz2 : (listText (PyData.shownAll ds)).length ≤ sizeLine := by simpa only [PyData.shown] using hz
    simp only [lay2] at c
    simp only [PyData.showable] at hs
    cases h with
    | lst hl ha =>
      cases r
      obtain ⟨its, rv, ⟨o, n, ho, hc, _, hd⟩, _⟩ := I.list (SqL.of hl)
      obtain ⟨as, bs, hr, hb, hk⟩ := DqAll.rk ck I ds _ its ha c hs (fun t ht => Nat.le_trans (listText_mem_le ht) hz2) rv
      have R := Reads.list ho hc hd hr
      have hn := not_mem_of_deeper R (n := PyData.depthAll ds) (by simp only [PyData.depth]; omega) hb
      refine ⟨_, _, R, ReadAtMost.cons R (by simp only [PyData.depth]; omega) hb, ?_⟩
      show ReprK _ _ _ _ (PyData.depthAll ds + 1) _ (listText (PyData.shownAll ds))
      match its, ds, hr, hd, hk, hn with
      | [], [], _, hd, _, _ =>
        rw [show listText (PyData.shownAll []) = ("[]" : Str) by rw [PyData.shownAll_nil, listText_nil]]
        exact ReprK.listEmpty ho hc hd
      | x :: l, ds, _, hd, hk, hn => exact ReprK.list ho hc hd hn (by have := hk.length_eq; simpa using this) fun i y e => hk.item i y (by simpa using e)
  | .tuple ds, _, _, h, c, hs, hz, r => by
    have hz2 : (tupleText (PyData.shownAll ds)).length ≤ sizeLine := by simpa only [PyData.shown] using hz
    simp only [lay2] at c
    simp only [PyData.showable] at hs
    obtain ⟨a0_, vs0_, rfl, hT, ha⟩ := Dq.tupE ck h
    exact by
      cases r
      obtain ⟨its, rv, ⟨o, ho, hc, n, hd⟩, _⟩ := I.tuple (hT _ (Same.refl _))
      obtain ⟨as, bs, hr, hb, hk⟩ := DqAll.rk ck I ds _ its ha c hs (fun t ht => Nat.le_trans (tupleText_mem_le ht) hz2) rv
      have R := Reads.tuple ho hc hd hr
      have hn := not_mem_of_deeper R (n := PyData.depthAll ds) (by simp only [PyData.depth]; omega) hb
      refine ⟨_, _, R, ReadAtMost.cons R (by simp only [PyData.depth]; omega) hb, ?_⟩
      show ReprK _ _ _ _ (PyData.depthAll ds + 1) _ (tupleText (PyData.shownAll ds))
      exact ReprK.tuple ho hc hd hn hk
  | .dict l, _, _, h, c, hs, hz, r => by
    have hz2 : (dictText (PyData.shownKv l)).length ≤ sizeLine := by simpa only [PyData.shown] using hz
    simp only [lay2] at c
    simp only [PyData.showable] at hs
    obtain ⟨a, kvs, rfl, hx, hk⟩ := dq_dict h c
    cases r
    obtain ⟨_, hm, vs, rel, o, es, ep, ho, hex, hdat, _, hp, _⟩ := dk_of I.hok hx
    obtain ⟨s1, s2⟩ := PyData.showableKv_split l hs
    have hkey := readsKeys (s := s) hk rel hp
    obtain ⟨b1, hb1, k1⟩ := ReprAllK.of_readsAll (prog := X.prog) (w := X.w) hkey s1 (fun _ => List.not_mem_nil) fun t ht => by
      obtain ⟨p, hp2, hl⟩ := PyData.shownKv_key_le l t ht
      exact Nat.le_trans hl (Nat.le_trans (dictText_mem_le hp2) hz2)
    obtain ⟨as, b2, hr, hb2, k2⟩ := DkAll.rk ck I l kvs vs es.toList hk c s2 (fun t ht => by
      obtain ⟨p, hp2, hl⟩ := PyData.shownKv_val_le l t ht
      exact Nat.le_trans hl (Nat.le_trans (dictText_mem_le hp2) hz2)) rel hp
    have R := Reads.dict ho hex.1 hdat hkey hr
    have hb := (hb1.mono (PyData.depthAll_keys_le l)).append (hb2.mono (PyData.depthAll_vals_le l))
    have hn := not_mem_of_deeper R (n := PyData.depthKv l) (by simp only [PyData.depth]; omega) hb
    refine ⟨_, _, R, ReadAtMost.cons R (by simp only [PyData.depth]; omega) hb, ?_⟩
    show ReprK _ _ _ _ (PyData.depthKv l + 1) _ (dictText (PyData.shownKv l))
    have e1 := k1.more_le (as' := b1 ++ b2) (fun b z => List.mem_append_left _ z) (PyData.depthAll_keys_le l)
    have e2 := k2.more_le (as' := b1 ++ b2) (fun b z => List.mem_append_right _ z) (PyData.depthAll_vals_le l)
    rw [PyData.shownKv_eq]
    exact ReprK.dict ho hex.1 hdat hm hn (ReprEntriesK.of_two es.toList _ _ e1 e2)
theorem DqAll.rk (ck : CkK X.K) (I : Inv X pins σ H s) : ∀ (ds : List PyData) (vs : List V) (us : List Value), DqAll H vs ds → lay2All ds = true → PyData.showableAll ds = true → (∀ t ∈ PyData.shownAll ds, t.length ≤ sizeLine) → Vals vs us → ∃ as bs, ReadsAll s.heap us ds as ∧ ReadAtMost s.heap (PyData.depthAll ds) bs ∧ ReprAllK X.prog X.w bs s.heap (PyData.depthAll ds) us (PyData.shownAll ds)
  | [], _, _, h, _, _, _, r => by
    cases h
    cases r
    exact ⟨_, [], ReadsAll.nil, fun _ z => absurd z List.not_mem_nil, by rw [PyData.shownAll_nil]; exact .nil⟩
  | d :: ds, _, _, h, c, hs, hz, r => by
    simp only [lay2All, Bool.and_eq_true] at c
    simp only [PyData.showableAll, Bool.and_eq_true] at hs
    cases h with
    | cons h1 h2 =>
      cases r with
      | cons r1 r2 =>
        obtain ⟨a1, b1, q1, m1, k1⟩ := Dq.rk ck I d _ _ h1 c.1 hs.1 (hz _ (by rw [PyData.shownAll_cons]; exact List.mem_cons_self)) r1
        obtain ⟨a2, b2, q2, m2, k2⟩ := DqAll.rk ck I ds _ _ h2 c.2 hs.2 (fun t ht => hz t (by rw [PyData.shownAll_cons]; exact List.mem_cons_of_mem _ ht)) r2
        have l1 : d.depth ≤ PyData.depthAll (d :: ds) := by simp only [PyData.depthAll]; omega
        have l2 : PyData.depthAll ds ≤ PyData.depthAll (d :: ds) := by simp only [PyData.depthAll]; omega
        refine ⟨_, b1 ++ b2, ReadsAll.cons q1 q2, (m1.mono l1).append (m2.mono l2), ?_⟩
        rw [PyData.shownAll_cons]
        exact .cons ((k1.more fun b z => List.mem_append_left _ z).level_le l1) (k2.more_le (fun b z => List.mem_append_right _ z) l2)
theorem DkAll.rk (ck : CkK X.K) (I : Inv X pins σ H s) : ∀ (l : List (PyData × PyData)) (kvs : List (Key × V)) (vs : List (Key × Value)) (es : List DictEntry), DkAll H kvs l → lay2Kv l = true → PyData.showableAll (l.map (·.2)) = true → (∀ t ∈ PyData.shownAll (l.map (·.2)), t.length ≤ sizeLine) → KV kvs vs → Pairs (mixKind X.prog X.w) es vs →
    ∃ as bs, ReadsAll s.heap (es.map (·.val)) (l.map (·.2)) as ∧ ReadAtMost s.heap (PyData.depthAll (l.map (·.2))) bs ∧ ReprAllK X.prog X.w bs s.heap (PyData.depthAll (l.map (·.2))) (es.map (·.val)) (PyData.shownAll (l.map (·.2)))
  | [], [], _, _, _, _, _, _, h1, h2 => by
    cases h1
    cases h2
    exact ⟨_, [], ReadsAll.nil, fun _ z => absurd z List.not_mem_nil, by rw [List.map_nil, PyData.shownAll_nil]; exact .nil⟩
  | (kd, vd) :: r2, (k, v) :: r, _, _, ⟨e, hv, h⟩, c, hs, hz, .cons h1 h1', .cons h2 h3 h2'' => by
    simp only [lay2Kv, Bool.and_eq_true] at c
    simp only [List.map_cons, PyData.showableAll, Bool.and_eq_true] at hs
    obtain ⟨a1, b1, q1, m1, k1⟩ := Dq.rk ck I vd v _ hv c.1.2 hs.1 (hz _ (by rw [List.map_cons, PyData.shownAll_cons]; exact List.mem_cons_self)) h1.2
    obtain ⟨a2, b2, q2, m2, k2⟩ := DkAll.rk ck I r2 r _ _ h c.2 hs.2 (fun t ht => hz t (by rw [List.map_cons, PyData.shownAll_cons]; exact List.mem_cons_of_mem _ ht)) h1' h2''
    have l1 : vd.depth ≤ PyData.depthAll (vd :: r2.map (·.2)) := by simp only [PyData.depthAll]; omega
    have l2 : PyData.depthAll (r2.map (·.2)) ≤ PyData.depthAll (vd :: r2.map (·.2)) := by simp only [PyData.depthAll]; omega
    rw [← h3] at q1 k1
    refine ⟨_, b1 ++ b2, ReadsAll.cons q1 q2, (m1.mono l1).append (m2.mono l2), ?_⟩
    rw [List.map_cons, List.map_cons, PyData.shownAll_cons]
    exact .cons ((k1.more fun b z => List.mem_append_left _ z).level_le l1) (k2.more_le (fun b z => List.mem_append_right _ z) l2)
  | [], _ :: _, _, _, h, _, _, _, _, _ => h.elim
  | _ :: _, [], _, _, h, _, _, _, _, _ => h.elim
end
end
mutual
def rlen2 : PyData → Nat
  | .none => 4
  | .bool _ => 5
  | .int i => ((toString i : String) : Str).length
  | .str x => 10 * x.length + 2
  | .list xs => 3 + rlen2All xs
  | .tuple xs => 3 + rlen2All xs
  | .dict kvs => 2 + rlen2Kv kvs
def rlen2All : List PyData → Nat
  | [] => 0
  | x :: xs => rlen2 x + 2 + rlen2All xs
def rlen2Kv : List (PyData × PyData) → Nat
  | [] => 0
  | (k, v) :: r => rlen2 k + 2 + rlen2 v + 2 + rlen2Kv r
end
theorem shown_k {k : PyData} (h : atomK k = true) : k.shown.length ≤ rlen2 k := by
  cases k with
  | int i => rw [PyData.shown_int]; exact Nat.le_refl _
  | str x =>
    rw [PyData.shown_str]
    exact StrLaws.reprText_len x (strOk_lt h)
  | _ => cases h
mutual
theorem shown_le2 : ∀ d : PyData, lay2 d = true → d.shown.length ≤ rlen2 d
  | .none, _ => by rw [PyData.shown_none]; decide
  | .bool b, _ => by rw [PyData.shown_bool]; cases b <;> decide
  | .int i, _ => by rw [PyData.shown_int]; exact Nat.le_refl _
  | .str x, h => by
    rw [PyData.shown_str]
    simp only [lay2] at h
    exact StrLaws.reprText_len x (strOk_lt h)
  | .list xs, h => by
    simp only [lay2] at h
    have h1 := shownAll_le2 xs h
    have h2 := join_sum ", " (PyData.shownAll xs)
    rw [PyData.shown_list, strLen_append, strLen_append]
    have e1 : ((("[" : String) : Str)).length = 1 := by decide
    have e2 : ((("]" : String) : Str)).length = 1 := by decide
    have e3 : (((", " : String) : Str)).length = 2 := by decide
    rw [e3] at h2
    simp only [rlen2]
    omega
  | .tuple xs, h => by
    simp only [lay2] at h
    have h1 := shownAll_le2 xs h
    have h2 := join_sum ", " (PyData.shownAll xs)
    rw [PyData.shown_tuple, strLen_append, strLen_append]
    have e1 : ((("(" : String) : Str)).length = 1 := by decide
    have e2 : ((((if xs.length == 1 then ",)" else ")" : String) : Str))).length ≤ 2 := by split <;> decide
    have e3 : (((", " : String) : Str)).length = 2 := by decide
    rw [e3] at h2
    simp only [rlen2]
    omega
  | .dict l, h => by
    simp only [lay2] at h
    have h1 := shownKv_le2 l h
    have h2 := join_sum ", " (PyData.shownKv l)
    rw [PyData.shown_dict, strLen_append, strLen_append]
    have e1 : ((("{" : String) : Str)).length = 1 := by decide
    have e2 : ((("}" : String) : Str)).length = 1 := by decide
    have e3 : (((", " : String) : Str)).length = 2 := by decide
    rw [e3] at h2
    simp only [rlen2]
    omega
theorem shownAll_le2 : ∀ xs : List PyData, lay2All xs = true → ((PyData.shownAll xs).map fun y => y.length + 2).sum ≤ rlen2All xs
  | [], _ => by rw [PyData.shownAll_nil]; exact Nat.zero_le _
  | x :: xs, h => by
    simp only [lay2All, Bool.and_eq_true] at h
    have h1 := shown_le2 x h.1
    have h2 := shownAll_le2 xs h.2
    rw [PyData.shownAll_cons, List.map_cons, List.sum_cons]
    simp only [rlen2All]
    omega
theorem shownKv_le2 : ∀ l : List (PyData × PyData), lay2Kv l = true → ((PyData.shownKv l).map fun y => y.length + 2).sum ≤ rlen2Kv l
  | [], _ => by simp [PyData.shownKv]
  | (k, v) :: r, h => by
    simp only [lay2Kv, Bool.and_eq_true] at h
    have h0 := shown_k h.1.1
    have h1 := shown_le2 v h.1.2
    have h2 := shownKv_le2 r h.2
    have e3 : (((": " : String) : Str)).length = 2 := by decide
    simp only [PyData.shownKv, List.map_cons, List.sum_cons, rlen2Kv]
    rw [strLen_append, strLen_append]
    omega
end
/-- what can be shown by repr, dicts too -/
structure Sho2 (d : PyData) : Prop where
  lay : lay2 d = true
  shw : d.showable = true
  dep : d.depth ≤ 60
  len : rlen2 d ≤ 10000000
  int : ∀ i : Int, d = .int i → i.natAbs.log2 < 1920
def isSeqD : PyData → Bool
  | .list _ | .tuple _ | .dict _ => true
  | _ => false
theorem shows_of {X : Cx} {pins : List (Addr × Obj)} {σ : L2.St} {H : Hp} {s : Shared} {d : PyData} {a : Addr} (ck : CkK X.K) (I : Inv X pins σ H s) (h : Dq H (.ref a) d) (hd : Sho2 d) (hsz : d.shown.length ≤ sizeLine) (hsq : isSeqD d = true) (r : RelV (V.ref a) (Value.ref a)) : ∃ T idr, ShowsBy X.prog X.w s.heap a d T idr := by
  have c := hd.lay
  have hs := hd.shw
  cases d with
  | list ds =>
    have hz2 : (listText (PyData.shownAll ds)).length ≤ sizeLine := by simpa only [PyData.shown] using hsz
    simp only [lay2] at c
    simp only [PyData.showable] at hs
    cases h with
    | lst hl ha =>
      obtain ⟨its, rv, ⟨o, n, ho, hc, _, hdd⟩, _⟩ := I.list (SqL.of hl)
      obtain ⟨as, bs, hr, hb, hk⟩ := DqAll.rk ck I ds _ its ha c hs (fun t ht => Nat.le_trans (listText_mem_le ht) hz2) rv
      have R := Reads.list ho hc hdd hr
      have hn := not_mem_of_deeper R (n := PyData.depthAll ds) (by simp only [PyData.depth]; omega) hb
      refine ⟨"list", "list.__repr__", F.slot_list_repr.toG, F.slot_list_str, F.slot_list_format, fun s' k => ⟨o, k _ _ ho, hc⟩, fun A E s' Q hg hu k hQ => ?_⟩
      simp only [PyData.depth] at hu
      simp only [PyData.shown] at hQ
      match its, ds, hr, hdd, hk, hn, hu, hQ with
      | [], [], _, hdd, _, _, _, hQ =>
        rw [PyData.shownAll_nil, listText_nil] at hQ
        exact call_list_repr_empty ⟨o, k _ _ ho, hc⟩ (k _ _ ho) hdd (hQ s'.heap _ _ fun _ _ e => e)
      | x :: l, ds, _, hdd, hk, hn, hu, hQ => exact call_list_reprK ho hc hdd hn (by have := hk.length_eq; simpa using this) (fun i y e => hk.item i y (by simpa using e)) hg (fun b _ => Clear.nil b) hu k hQ hz2
  | tuple ds =>
    have hz2 : (tupleText (PyData.shownAll ds)).length ≤ sizeLine := by simpa only [PyData.shown] using hsz
    simp only [lay2] at c
    simp only [PyData.showable] at hs
    obtain ⟨a0_, vs0_, e0_, hT, ha⟩ := Dq.tupE ck h
    cases e0_
    exact by
      obtain ⟨its, rv, ⟨o, ho, hc, n, hdd⟩, _⟩ := I.tuple (hT _ (Same.refl _))
      obtain ⟨as, bs, hr, hb, hk⟩ := DqAll.rk ck I ds _ its ha c hs (fun t ht => Nat.le_trans (tupleText_mem_le ht) hz2) rv
      have R := Reads.tuple ho hc hdd hr
      have hn := not_mem_of_deeper R (n := PyData.depthAll ds) (by simp only [PyData.depth]; omega) hb
      refine ⟨"tuple", "tuple.__repr__", F.slot_tuple_repr, F.slot_tuple_str, F.slot_tuple_format, fun s' k => ⟨o, k _ _ ho, hc⟩, fun A E s' Q hg hu k hQ => ?_⟩
      simp only [PyData.depth] at hu
      simp only [PyData.shown] at hQ
      exact call_tuple_reprK ho hc hdd hn hk hg (fun b _ => Clear.nil b) hu k hQ hz2
  | dict l =>
    have hz2 : (dictText (PyData.shownKv l)).length ≤ sizeLine := by simpa only [PyData.shown] using hsz
    simp only [lay2] at c
    simp only [PyData.showable] at hs
    obtain ⟨a', kvs, ea, hx, hk⟩ := dq_dict h c
    obtain rfl : a = a' := by injection ea
    obtain ⟨_, hm, vs, rel, o, es, ep, ho, hex, hdat, _, hp, _⟩ := dk_of I.hok hx
    obtain ⟨s1, s2⟩ := PyData.showableKv_split l hs
    have hkey := readsKeys (s := s) hk rel hp
    obtain ⟨b1, hb1, k1⟩ := ReprAllK.of_readsAll (prog := X.prog) (w := X.w) hkey s1 (fun _ => List.not_mem_nil) fun t ht => by
      obtain ⟨p, hp2, hl⟩ := PyData.shownKv_key_le l t ht
      exact Nat.le_trans hl (Nat.le_trans (dictText_mem_le hp2) hz2)
    obtain ⟨as, b2, hr, hb2, k2⟩ := DkAll.rk ck I l kvs vs es.toList hk c s2 (fun t ht => by
      obtain ⟨p, hp2, hl⟩ := PyData.shownKv_val_le l t ht
      exact Nat.le_trans hl (Nat.le_trans (dictText_mem_le hp2) hz2)) rel hp
    have R := Reads.dict ho hex.1 hdat hkey hr
    have hb := (hb1.mono (PyData.depthAll_keys_le l)).append (hb2.mono (PyData.depthAll_vals_le l))
    have hn := not_mem_of_deeper R (n := PyData.depthKv l) (by simp only [PyData.depth]; omega) hb
    refine ⟨"dict", "dict.__repr__", F.slot_dict_repr, F.slot_dict_str, F.slot_dict_format, fun s' k => ⟨o, k _ _ ho, hex.1⟩, fun A E s' Q hg hu k hQ => ?_⟩
    simp only [PyData.depth] at hu
    simp only [PyData.shown] at hQ
    have e1 := k1.more_le (as' := b1 ++ b2) (fun b z => List.mem_append_left _ z) (PyData.depthAll_keys_le l)
    have e2 := k2.more_le (as' := b1 ++ b2) (fun b z => List.mem_append_right _ z) (PyData.depthAll_vals_le l)
    rw [PyData.shownKv_eq] at hQ hz2
    exact call_dict_reprK ho hex.1 hdat hm hn (ReprEntriesK.of_two es.toList _ _ e1 e2) hg (fun b _ => Clear.nil b) hu k hQ hz2
  | _ => cases hsq
section
variable {X : Cx} {ρ : REnv} {μ μ1 : Sto} {o : Expr} {d : PyData} {p pos : Pos}
theorem EV.reprX2 (T : X.mg "repr" = none) (hgd : X.A.guards = some []) (hun : X.A.units + 100 < cLine) (ho : EV X o ρ μ (.dat d) μ1) (hd : Sho2 d) (hg : Gl X "repr" := by rfl) (hs : starEach [o] X.env = (false, eval o X.env) :: starEach [] X.env := by rfl) : EV X (.Call (.Name "repr" p) [o] [] pos) ρ μ (Ss d.shown) μ1 := by
  intro w σ H m s Q q
  have hsz : d.shown.length ≤ sizeLine := Nat.le_trans (Nat.le_trans (shown_le2 d hd.lay) hd.len) (by decide)
  have cr : CallR X (.builtin "repr") (fun vs H Q => ∃ v, vs = [v] ∧ CkK X.K ∧ Dq H v d ∧ Q (.str d.shown) H) := by
    intro pins s σ H xs us Q I r h
    obtain ⟨v, rfl, ck, hdq, hq⟩ := h
    obtain ⟨u, rfl, ru⟩ := vals1 r
    have big : ∀ a : Addr, v = V.ref a → isSeqD d = true → wpAny (model X.prog X.w) X.A (PySem.call (.builtin "repr") [u]) (EP X pins σ Q) X.xe s := fun a ea hsq => by
      subst ea
      obtain rfl : u = Value.ref a := ru
      obtain ⟨T0, idr, S⟩ := shows_of ck I hdq hd hsz hsq (show RelV (V.ref a) (Value.ref a) from rfl)
      have h1 := hd.dep
      refine call_repr_slot (by omega) (S.typeIs s fun _ _ e => e) S.slotRepr (S.call X.A.in1 X.xe s _ hgd (by show X.A.units + 1 + d.depth < cLine; omega) (fun _ _ e => e) fun h' u tk kp => ⟨_, _, rfl, ?_⟩)
      exact ⟨.str d.shown, H, I.kept (t' := tk) kp, ⟨u, rfl⟩, hq⟩
    cases hdq
    case non =>
      obtain rfl : u = Value.none := ru
      exact PySem.P.repr_of_none ⟨.str _, H, I.tok _, ⟨_, rfl⟩, by rw [PyData.shown_none] at hq; exact hq⟩
    case bl b =>
      obtain rfl : u = Value.bool b := ru
      exact PySem.P.repr_of_bool ⟨.str _, H, I.tok _, ⟨_, rfl⟩, by rw [PyData.shown_bool] at hq; exact hq⟩
    case int =>
      obtain ⟨t, rfl⟩ := ru
      exact PySem.P.repr_of_int (hd.int _ rfl) ⟨.str _, H, I.tok _, ⟨_, rfl⟩, by rw [PyData.shown_int] at hq; exact hq⟩
    case str =>
      obtain ⟨t, rfl⟩ := ru
      exact PySem.P.repr_of_str ⟨.str _, H, I.tok _, ⟨_, rfl⟩, by rw [PyData.shown_str] at hq; exact hq⟩ (by rw [PyData.shown_str] at hsz; exact hsz)
    all_goals exact big _ rfl rfl
  refine ⟨_, pe_callB cr hg T (by decide +kernel) (pa_cons (p_ex (e := o)) pa_nil hs) (by decide) (by decide) hs (by rfl), ?_⟩
  refine ho w σ H m s _ fun v H1 m1 f1 h1 => ?_
  have h1' : Dq (dl H1 w.all) v d := h1
  exact ⟨v, rfl, m1.cst, dq_mono dl_same _ _ h1', q _ H1 m1 f1 (Dq.str _)⟩
theorem EV.dict0 : EV X (.Dict [] [] pos) ρ μ (.dat (.dict [])) μ := by
  intro w σ H m s Q q
  refine ⟨_, pe_dnewK, fun c hc => ?_⟩
  refine q _ _ (m.new hc) (Fr.of_same (Same.new hc)) ?_
  exact Dq.dic (kvs := []) (ks := []) (ds := []) (dl_of (m.freshA hc) upd_same) rfl .nil
end
/-- what can be shown by either road -/
def ShoB (base : Heap) (d : PyData) : Prop := Sho d ∨ Sho2 d
section
variable {X : Cx} {ρ : REnv} {μ μ1 : Sto} {o : Expr} {d : PyData} {p pos : Pos}
theorem EV.reprB (T : X.mg "repr" = none) (hgd : X.A.guards = some []) (hun : X.A.units + 100 < cLine) (ho : EV X o ρ μ (.dat d) μ1) (hd : ShoB X.base d) (hg : Gl X "repr" := by rfl) (hs : starEach [o] X.env = (false, eval o X.env) :: starEach [] X.env := by rfl) : EV X (.Call (.Name "repr" p) [o] [] pos) ρ μ (Ss d.shown) μ1 := by
  rcases hd with h | h2
  · exact EV.reprX T hgd hun ho h hg hs
  · exact EV.reprX2 T hgd hun ho h2 hg hs
end
end J
/-! P6a: a book with one round changed. -/
namespace M
open PySem J L2
variable [KC]
def swap (rs : List PyData) (i : Nat) (t : PyData) : List PyData := rs.take i ++ (t :: rs.drop (i + 1))
def changePlan (p : PyData) (i : Nat) (t : Str) : PyData := match p with
  | .tuple [n, g, b, .tuple rs] => .tuple [n, g, b, .tuple (swap rs i (.str t))]
  | _ => .none
def change (ps : List PyData) (j i : Nat) (t : Str) : List PyData := swap ps j (changePlan (ps.getD j .none) i t)
theorem swap_len {rs : List PyData} {i : Nat} {t : PyData} (h : i < rs.length) : (swap rs i t).length = rs.length := by
  unfold swap
  rw [List.length_append, List.length_cons, List.length_take, List.length_drop]
  omega
theorem swap_set {rs : List PyData} {i : Nat} {t : PyData} (h : i < rs.length) : swap rs i t = rs.set i t := by
  unfold swap
  rw [List.set_eq_take_append_cons_drop, if_pos h]
theorem swap_get {rs : List PyData} {i k : Nat} {t x : PyData} (h : i < rs.length) (e : (swap rs i t)[k]? = some x) : (k = i ∧ x = t) ∨ (k ≠ i ∧ rs[k]? = some x) := by
  rw [swap_set h] at e
  by_cases hk : i = k
  · subst hk
    rw [List.getElem?_set] at e
    simp [h] at e
    exact .inl ⟨rfl, e.symm⟩
  · rw [List.getElem?_set_ne hk] at e
    exact .inr ⟨fun z => hk z.symm, e⟩
theorem stand_reads {t : PyData} {ns : List Str} {a : Int} (h : canStand t ns a = true) : isNone (readRound t) = false := by
  unfold canStand at h
  rcases readRound_cases t with q | ⟨cs, q, _⟩
  · rw [q] at h
    cases h
  · rw [q]
    rfl
theorem change_shape {ps : List PyData} (G : Good ps) {j i : Nat} {p : PyData} (hj : ps[j]? = some p) : ∃ n g b rs, p = .tuple [.str n, .str g, .int b, .tuple rs] ∧ nameOk n = true ∧ isGoal (.str g) = true ∧ 1 ≤ b ∧ b ≤ 4 ∧ areRounds (.tuple rs) = true ∧ ∀ t, changePlan p i t = .tuple [.str n, .str g, .int b, .tuple (swap rs i (.str t))] := by
  obtain ⟨n, g, b, rs, rfl, h1, h2, h3, h4, h5⟩ := plan_shape (G.each p (List.mem_iff_getElem?.mpr ⟨j, hj⟩)).1
  exact ⟨n, g, b, rs, rfl, h1, h2, h3, h4, h5, fun t => rfl⟩
theorem change_good {ps : List PyData} (G : Good ps) {j i : Nat} {p : PyData} {t : Str} (hj : ps[j]? = some p) (hi : i < (roundsOf p).length) (hs : canStand (.str t) (ps.map nameOf) j = true) (ht : t.length ≤ 99990) : Good (change ps j i t) := by
  obtain ⟨n, g, b, rs, rfl, h1, h2, h3, h4, h5, hc⟩ := change_shape (i := i) G hj
  have hjl := (List.getElem?_eq_some_iff.mp hj).1
  have hi' : i < rs.length := hi
  have e0 : change ps j i t = swap ps j (.tuple [.str n, .str g, .int b, .tuple (swap rs i (.str t))]) := by
    unfold change
    rw [List.getD_eq_getElem?_getD, hj]
    exact congrArg (swap ps j) (hc t)
  have en : (change ps j i t).map nameOf = ps.map nameOf := by
    rw [e0, swap_set hjl, List.map_set]
    have : nameOf (.tuple [.str n, .str g, .int b, .tuple (swap rs i (.str t))]) = nameOf (.tuple [.str n, .str g, .int b, .tuple rs]) := rfl
    rw [this]
    have hm : (ps.map nameOf)[j]? = some (nameOf (.tuple [.str n, .str g, .int b, .tuple rs])) := by
      rw [List.getElem?_map, hj]
      rfl
    obtain ⟨q1, q2⟩ := List.getElem?_eq_some_iff.mp hm
    rw [← q2, List.set_getElem_self]
  have hold := G.each _ (List.mem_iff_getElem?.mpr ⟨j, hj⟩)
  have hrs : ∀ x ∈ swap rs i (.str t), x = .str t ∨ x ∈ rs := fun x hx => by
    obtain ⟨k, hk⟩ := List.mem_iff_getElem?.mp hx
    rcases swap_get hi' hk with ⟨_, z⟩ | ⟨_, z⟩
    · exact .inl z
    · exact .inr (List.mem_iff_getElem?.mpr ⟨k, z⟩)
  have h5' : ((decide (1 ≤ (rs.length : Int)) && decide ((rs.length : Int) ≤ 5)) && rs.all fun x => !isNone (readRound x)) = true := h5
  rw [Bool.and_eq_true] at h5'
  have hnew : isPlan (.tuple [.str n, .str g, .int b, .tuple (swap rs i (.str t))]) = true ∧ smallP (.tuple [.str n, .str g, .int b, .tuple (swap rs i (.str t))]) := by
    refine ⟨?_, fun n' g' b' r' e => ?_⟩
    · show (baseOk (.int b) && (isName (.str n) && (isGoal (.str g) && areRounds (.tuple (swap rs i (.str t)))))) = true
      have a1 : baseOk (.int b) = true := by
        show (decide (1 ≤ b) && decide (b ≤ 4)) = true
        rw [decide_eq_true h3, decide_eq_true h4]
        rfl
      have a2 : isName (.str n) = true := h1
      have a3 : areRounds (.tuple (swap rs i (.str t))) = true := by
        show ((decide (1 ≤ ((swap rs i (.str t)).length : Int)) && decide (((swap rs i (.str t)).length : Int) ≤ 5)) && (swap rs i (.str t)).all fun x => !isNone (readRound x)) = true
        rw [swap_len hi', h5'.1, Bool.true_and, List.all_eq_true]
        intro x hx
        rcases hrs x hx with rfl | z
        · rw [stand_reads hs]
          rfl
        · exact List.all_eq_true.mp h5'.2 x z
      rw [a1, a2, h2, a3]
      rfl
    · obtain ⟨s1, s2⟩ := hold.2 _ _ _ _ rfl
      simp only [PyData.tuple.injEq, List.cons.injEq] at e
      obtain ⟨rfl, rfl, rfl, rfl, _⟩ := e
      refine ⟨s1, fun ds hds y hy s hs' => ?_⟩
      cases hds
      rcases hrs y hy with rfl | z
      · cases hs'
        exact ht
      · exact s2 rs rfl y z s hs'
  have hget : ∀ (k : Nat) (x : PyData), (change ps j i t)[k]? = some x → (k = j ∧ x = .tuple [.str n, .str g, .int b, .tuple (swap rs i (.str t))]) ∨ (k ≠ j ∧ ps[k]? = some x) := fun k x hk => by
    rw [e0] at hk
    exact swap_get hjl hk
  have hl : (change ps j i t).length = ps.length := by rw [e0, swap_len hjl]
  refine ⟨by rw [hl]; exact G.le4, by rw [hl]; exact G.ge1, fun x hx => ?_, by rw [en]; exact G.nd, fun k x hk y hy => ?_⟩
  · obtain ⟨k, hk⟩ := List.mem_iff_getElem?.mp hx
    rcases hget k x hk with ⟨_, rfl⟩ | ⟨_, z⟩
    · exact hnew
    · exact G.each x (List.mem_iff_getElem?.mpr ⟨k, z⟩)
  · rw [en]
    rcases hget k x hk with ⟨rfl, rfl⟩ | ⟨_, z⟩
    · have hy' : y ∈ swap rs i (.str t) := hy
      rcases hrs y hy' with rfl | z
      · exact hs
      · exact G.stand k _ hj y z
    · exact G.stand k x z y hy
end M
/-! J38: lists of tuples, lists of lists that change, tuples repeated; small data with dicts. -/
namespace J
open PySem PySem.Spec
open PyProof.Rows L2
variable [KC]
theorem cv_lstC {K : PySem.W.Frag} {μ : Sto} {ds : List PyData} {n0 : Nat} (hn : μ[n0]? = some ds) : CallV K (fun xs H Q => ∃ p ys, xs = [V.ref p] ∧ (SqL K H p ys ∨ SqT K H p ys) ∧ ∀ l, H l = none → Q (.ref l) (upd H l (.lst ys))) [.ptr n0] (Ls ds) μ := call1 fun w H v m a Q q => by
  obtain ⟨p, hp, rfl⟩ := a
  obtain ⟨vs, hb, hd⟩ := m.cell n0 p ds hp hn
  exact ⟨p, vs, rfl, .inl (SqL.of hb), new_lst m hd q⟩
theorem r2_repT {K : PySem.W.Frag} {μ : Sto} {ds : List PyData} {n : Nat} (h0 : 2 ≤ n) (h1 : n ≤ 1000) (h2 : ds.length ≤ 1000) (hne : ds ≠ []) : R2V K (rRepT K) (Tp ds) (Ii (n : Int)) (Tp (List.replicate n ds).flatten) μ := fun w H v u m a b Q q => by
  obtain ⟨a0, xs, rfl, ha, hd⟩ := Dq.tupE m.cst a
  · cases b
    have hl := dqAll_len hd
    refine ⟨_, (n : Int), xs, rfl, rfl, ha _ dl_same, fun z => hne (List.length_eq_zero_iff.mp (by rw [← hl, z]; rfl)), by omega, by omega, by omega, ?_⟩
    rw [Int.toNat_natCast]
    exact new_tup m (dqAll_rep hd n) q
section
variable {X : Cx} {ρ : REnv} {μ μ1 μ2 : Sto} {a b e : Expr} {pos p : Pos} {ds : List PyData} {d : PyData} {n0 : Nat}
theorem bLstC (T : X.mg "list" = none) (ha : EV X a ρ μ (.ptr n0) μ1) (hn : μ1[n0]? = some ds) (hg : Gl X "list" := by rfl) (hs : starEach [a] X.env = (false, eval a X.env) :: starEach [] X.env := by rfl) : EV X (.Call (.Name "list" p) [a] [] pos) ρ μ (Ls ds) μ1 := EV.callTy call_list_of T (by decide +kernel) (AV.cons ha AV.nil hs) (cv_lstC hn) hg (by decide) (by decide) hs (by rfl)
/-- a new list of a tuple's items -/
theorem EVF.lstT (T : X.mg "list" = none) (ha : EV X a ρ μ (Tp ds) μ1) (hg : Gl X "list" := by rfl) (hs : starEach [a] X.env = (false, eval a X.env) :: starEach [] X.env := by rfl) : EVF X (.Call (.Name "list" p) [a] [] pos) ρ μ ds μ1 := by
  intro w σ H m s Q q
  refine ⟨_, pe_callTy call_list_of hg T (by decide +kernel) (p_ax (e := [a])) (by decide) (by decide) hs (by rfl), ?_⟩
  refine (AV.cons ha AV.nil hs) w σ H m s _ fun vs H1 m1 f1 h1 => ?_
  obtain ⟨v, us, rfl, h2, h3⟩ := h1.inv
  rw [h3.inv0]
  obtain ⟨a0_, vs0_, rfl, hb, hd⟩ := Dq.tupE m1.cst h2
  · refine ⟨_, _, rfl, .inr (hb _ dl_same), fun l hl => ?_⟩
    exact q l _ _ (m1.keep hl) (f1.trans (Fr.of_same (Same.new hl))) (fresh_of m1 f1 (Nw.of hl)) upd_same (dqAll_mono (keep_out (K := X.K) hl (Fr.of_same (Same.new hl)) ⟨_, upd_same⟩) _ _ hd)
theorem oRepT {m : Nat} (ha : EV X a ρ μ (Tp ds) μ1) (hb : EV X b ρ μ1 (Ii (m : Int)) μ2) (h0 : 2 ≤ m) (h1 : m ≤ 1000) (h2 : ds.length ≤ 1000) (hne : ds ≠ []) : EV X (.BinOp a .Mult b pos) ρ μ (Tp (List.replicate m ds).flatten) μ2 := ha.op op_repT hb (r2_repT h0 h1 h2 hne)
end
theorem cutUp {rs : List PyData} {i : Nat} (h : i ≤ rs.length) : cutD rs none (some (i : Int)) = rs.take i := by
  unfold cutD
  rw [HT.sIx_nat, HT.sIx_none, List.drop_zero, Nat.sub_zero, Nat.min_eq_left h]
theorem cutDn {rs : List PyData} {i : Nat} (h : i < rs.length) : cutD rs (some ((i : Int) + 1)) none = rs.drop (i + 1) := by
  unfold cutD
  have e : HT.sIx rs.length 0 (some ((i : Int) + 1)) = min (i + 1) rs.length := HT.sIx_nat rs.length 0 (i + 1)
  rw [e, HT.sIx_none, Nat.min_eq_left h, List.take_of_length_le (by simp)]
end J
namespace N
open PySem J L2
variable [KC]
/-- small enough to be shown, dicts too -/
structure Sm2 (a b : Nat) (d : PyData) : Prop where
  lay : lay2 d = true
  shw : d.showable = true
  dep : d.depth ≤ a
  len : rlen2 d ≤ b
theorem Sm2.mono {a b a2 b2 : Nat} {d : PyData} (h : Sm2 a b d) (h1 : a ≤ a2) (h2 : b ≤ b2) : Sm2 a2 b2 d := ⟨h.lay, h.shw, Nat.le_trans h.dep h1, Nat.le_trans h.len h2⟩
theorem Sm2.str {s : Str} {n : Nat} (h : Lo s) (hl : s.length ≤ n) : Sm2 0 (10 * n + 2) (.str s) := ⟨by simp [lay2, lo_ok h], by simp [PyData.showable], by simp [PyData.depth], by simp only [rlen2]; omega⟩
theorem Sm2.int {i : Int} (h0 : 0 ≤ i) (h9 : i ≤ 9) : Sm2 0 1 (.int i) := ⟨rfl, by simp only [PyData.showable]; exact decide_eq_true (log_dig ⟨h0, h9⟩), by simp [PyData.depth], by simp only [rlen2]; exact Nat.le_of_eq (strI_len i h0 h9)⟩
theorem sm2_all {a b : Nat} : ∀ {xs : List PyData}, (∀ x ∈ xs, Sm2 a b x) → lay2All xs = true ∧ PyData.showableAll xs = true ∧ PyData.depthAll xs ≤ a ∧ rlen2All xs ≤ xs.length * (b + 2)
  | [], _ => ⟨rfl, rfl, by simp [PyData.depthAll], Nat.zero_le _⟩
  | x :: xs, h => by
    obtain ⟨h1, h2, h3, h4⟩ := sm2_all (xs := xs) fun y hy => h y (List.mem_cons_of_mem _ hy)
    have g := h x List.mem_cons_self
    have g3 := g.dep
    have g4 := g.len
    refine ⟨by simp [lay2All, h1, g.lay], by simp [PyData.showableAll, h2, g.shw], by simp only [PyData.depthAll]; omega, ?_⟩
    simp only [rlen2All, List.length_cons]
    rw [Nat.add_mul]
    omega
theorem Sm2.list {a b n : Nat} {xs : List PyData} (h : ∀ x ∈ xs, Sm2 a b x) (hn : xs.length ≤ n) : Sm2 (a + 1) (3 + n * (b + 2)) (.list xs) := by
  obtain ⟨h1, h2, h3, h4⟩ := sm2_all h
  have : xs.length * (b + 2) ≤ n * (b + 2) := Nat.mul_le_mul_right _ hn
  exact ⟨by simp only [lay2]; exact h1, by simp only [PyData.showable]; exact h2, by simp only [PyData.depth]; omega, by simp only [rlen2]; omega⟩
theorem Sm2.tuple {a b n : Nat} {xs : List PyData} (h : ∀ x ∈ xs, Sm2 a b x) (hn : xs.length ≤ n) : Sm2 (a + 1) (3 + n * (b + 2)) (.tuple xs) := by
  obtain ⟨h1, h2, h3, h4⟩ := sm2_all h
  have : xs.length * (b + 2) ≤ n * (b + 2) := Nat.mul_le_mul_right _ hn
  exact ⟨by simp only [lay2]; exact h1, by simp only [PyData.showable]; exact h2, by simp only [PyData.depth]; omega, by simp only [rlen2]; omega⟩
theorem Sm2.sho {a b : Nat} {d : PyData} (h : Sm2 a b d) (h2 : a ≤ 60) (h3 : b ≤ 10000000) : Sho2 d := ⟨h.lay, h.shw, Nat.le_trans h.dep h2, Nat.le_trans h.len h3, fun i e => by
  have := h.shw
  rw [e] at this
  simpa only [PyData.showable, decide_eq_true_eq] using this⟩
mutual
theorem nob_lay2 : ∀ d : PyData, lay2 d = true → nob d = true
  | .none, _ | .bool _, _ | .int _, _ | .str _, _ => rfl
  | .list xs, h => by
    simp only [lay2] at h
    simp only [nob]
    exact nobAll_lay2 xs h
  | .tuple xs, h => by
    simp only [lay2] at h
    simp only [nob]
    exact nobAll_lay2 xs h
  | .dict kvs, h => by
    simp only [lay2] at h
    simp only [nob]
    match kvs, h with
    | [], _ => rfl
    | (.none, v) :: r, h => simp [lay2Kv, atomK] at h
    | (.int _, v) :: r, _ => rfl
    | (.str _, v) :: r, _ => rfl
    | (.bool _, v) :: r, h => simp [lay2Kv, atomK] at h
    | (.list _, v) :: r, h => simp [lay2Kv, atomK] at h
    | (.tuple _, v) :: r, h => simp [lay2Kv, atomK] at h
    | (.dict _, v) :: r, h => simp [lay2Kv, atomK] at h
theorem nobAll_lay2 : ∀ xs : List PyData, lay2All xs = true → nobAll xs = true
  | [], _ => rfl
  | x :: xs, h => by
    simp only [lay2All, Bool.and_eq_true] at h
    simp only [nobAll, nob_lay2 x h.1, nobAll_lay2 xs h.2, Bool.and_self]
end
theorem rlen2_mem : ∀ {xs : List PyData} {x : PyData}, x ∈ xs → rlen2 x ≤ rlen2All xs
  | y :: ys, x, h => by
    simp only [rlen2All]
    rcases List.mem_cons.mp h with rfl | h
    · omega
    · have := rlen2_mem h
      omega
theorem Sm2.smallP {a b : Nat} {d : PyData} (h : Sm2 a b d) (hb : b ≤ 999900) : M.smallP d := by
  intro n g b' r e
  subst e
  have hl := h.len
  simp only [rlen2, rlen2All] at hl
  refine ⟨fun s e => ?_, fun ds e x hx s es => ?_⟩
  · subst e
    simp only [rlen2] at hl
    omega
  · subst e
    subst es
    have h1 := rlen2_mem hx
    simp only [rlen2] at hl h1
    omega
end N
/-! J49: a tuple once. -/
namespace J
open PySem PySem.Spec
open PyProof.Rows L2
variable [KC]
theorem tuple_mul1 (l : Addr) (items : Array Value) (n : Nat) (dd : Option Addr) (sl : Array (Option Value)) (u : Tok) :
    Meets (Builtin.«tuple.__mul__» ⟨[.ref l, .int 1 u], []⟩) (fun _ R s => s.heap.get? l = some { cls := .type "tuple", dict := dd, data := .seq items n, slots := sl } ∧ R (.ok (.ret (Value.ref l))) s) :=
  .of_wp fun prog w A R s h => by
    obtain ⟨hp, g, d, tk, os⟩ := s
    obtain ⟨hl, h⟩ := h
    have f1 := AutoSeq1.idx_int
    have c1 : (items.isEmpty || (1 : Int) == 1) = true := by rw [show ((1 : Int) == 1) = true from rfl, Bool.or_true]
    wp_walk using wpAny_loadPart' hl
    repeat (first
      | (refine wpAny_ite_true (decide_eq_true (by rw [c1])) ?_; wp_walk using wpAny_loadPart' hl)
      | (refine wpAny_ite_true c1 ?_; wp_walk using wpAny_loadPart' hl)
      | (refine wpAny_ite_false (decide_eq_false (by decide)) ?_; wp_walk using wpAny_loadPart' hl))
    all_goals exact ⟨_, rfl, h⟩
def rOneT (K : PySem.W.Frag) : R2 := fun x y H Q => ∃ l xs, x = .ref l ∧ y = .int 1 ∧ SqT K H l xs ∧ Q (.ref l) H
section
variable {X : Cx} {ρ : REnv} {μ μ1 μ2 : Sto} {a b : Expr} {pos : Pos} {ds : List PyData}
theorem op_oneT : OpR X (binaryOp .Mult) (rOneT X.K) := by
  intro pins s σ H x y v u Q I rx ry h
  obtain ⟨l, xs, rfl, rfl, hT, q⟩ := h
  cases rx
  obtain ⟨t, rfl⟩ := ry
  obtain ⟨its, r, ⟨⟨cls, dd, data, sl⟩, ho, hc, n, hd⟩, hs⟩ := I.tuple hT
  simp only at hc hd
  subst hc hd
  refine wpAny_binaryOp_repeat_ref (T := "tuple") (U := "int") (by decide) ⟨_, ho, rfl⟩ (fun s' => typeIs_int s' 1 t) noFill_tuple_mul F.fills_int_mul F.slot_int_rmul repeat_tuple F.slot_int_index.lookup
    (call_meets F.slot_int_rmul (typeIs_int s 1 t) F.entry_int_rmul (F.args_int_rmul_2 _ _) (int_rmul_tuple 1 t l its.toArray n dd sl)
      ⟨ho, rfl, ⟨_, ho, rfl⟩, call_meets F.slot_tuple_mul ⟨_, ho, rfl⟩ F.entry_tuple_mul (F.args_tuple_mul_2 _ _) (tuple_mul1 l its.toArray n dd sl t) ⟨ho, ?_⟩⟩)
  exact ⟨.ref l, H, I, rfl, q⟩
theorem r2_oneT {K : PySem.W.Frag} {μ : Sto} : R2V K (rOneT K) (Tp ds) (Ii 1) (Tp ds) μ := fun w H v u m a b Q q => by
  have a' := a
  obtain ⟨a0, xs, rfl, ha, hd⟩ := Dq.tupE m.cst a
  cases b
  exact ⟨_, xs, rfl, rfl, ha _ dl_same, q _ H m (Fr.refl) a'⟩
theorem oOneT (ha : EV X a ρ μ (Tp ds) μ1) (hb : EV X b ρ μ1 (Ii 1) μ2) : EV X (.BinOp a .Mult b pos) ρ μ (Tp ds) μ2 := ha.op op_oneT hb r2_oneT
/-- a tuple of one item so many times -/
theorem oRep1 {m : Nat} {d : PyData} (ha : EV X a ρ μ (Tp [d]) μ1) (hb : EV X b ρ μ1 (Ii (m : Int)) μ2) (h1 : 1 ≤ m) (h2 : m ≤ 1000) : EV X (.BinOp a .Mult b pos) ρ μ (Tp (List.replicate m d)) μ2 := by
  by_cases h : m = 1
  · subst h
    exact oOneT ha hb
  · have e : (List.replicate m [d]).flatten = List.replicate m d := by
      clear ha hb h h1 h2
      induction m with
      | zero => rfl
      | succ m ih => rw [List.replicate_succ, List.flatten_cons, ih, List.replicate_succ]; rfl
    rw [← e]
    exact oRepT ha hb (by omega) h2 (Nat.le_of_ble_eq_true rfl) (by simp)
end
end J
/-! J36: methods that may raise. -/
namespace J
open PySem PySem.Spec
open PyProof.Rows L2
variable [KC]
def tMethS (C : Addr) (m : Str) (sp : Sp) (E : L2.St → XK) (ta : TE) (t : TA) : TE := fun σ H Q => ta σ H fun x H1 => ∃ a dx fs, x = .ref a ∧ H1 a = some (.ins C dx fs) ∧ fs.lookup m = none ∧ t σ H1 fun vs H2 => sp (x :: vs) H2 Q (E σ)
section
variable {X : Cx} {CX1 : CXT} {k : Nat} {f C : Addr} {fd : FuncData} {ps : List Str} {sp : Sp} {E : L2.St → XK} {m : Str} {pos apos : Pos} {e o : Expr} {es : List Expr} {ta : TE} {t : TA}
theorem pe_methS {pl : Sem Bool} (he : PE X o ta) (c : Cls X.K C) (hm : Meth X.K C m f) (F : FnOk X.prog X.w X.K X.mg X.base CX1 k f fd ps sp) (hr : Room k X.A) (hb : Binds X.K fd ps []) (hx : ∀ σ, PassesAt CX1 X σ (E σ)) (ha : PA X (e :: es) t)
    (hst : starEach (e :: es) X.env = (false, eval e X.env) :: starEach es X.env := by rfl) (hpl : (backTo pos (starEach es X.env)).any (·.1) = false := by rfl)
    (ht : eval (.Call (.Attribute o m apos) (e :: es) [] pos) X.env = (do
      let ov ← eval o X.env
      standAt apos.atName
      let (f, first) ← holding [ov] (getMethod ov m pl)
      callWith pos f first (backTo pos (starEach (e :: es) X.env)) (backToKw pos (keywordEach [] X.env))) := by rfl) :
    PE X (.Call (.Attribute o m apos) (e :: es) [] pos) (tMethS C m sp E ta t) := by
  refine ⟨fun pins s σ H Q I h => ?_⟩
  refine PySem.W.methodCall_KW (pl := pl) (thn (he.run pins s σ H _ I h) fun u s1 ⟨x, H1, I1, rx, a, dx, fs, ex, ea, l, q⟩ => ?_) ht
  subst ex
  obtain rfl : u = Value.ref a := rx
  refine getmeth_ok I1 ea c hm l ?_
  refine PySem.W.callWith_K (first := [.ref a]) (h₀ := X.base) I.ok.mod.kin hm.kp (thn (ha.run pos pins s1 σ H1 _ I1 q) fun us s2 ⟨vs, H2, I2, r, q2⟩ => ⟨I2.kIn, ?_⟩) hst hpl
  exact run_fnS (us := .ref a :: us) (vs := .ref a :: vs) F hr hb (hx σ) I2 (.cons rfl r) q2
end
structure MthX (P : Program) (w : World) (K : PySem.W.Frag) (mg : Str → Option Value) (base : Heap) (C : Addr) (m : Str) (k : Nat) (ps : List Str) (c : ConX) : Prop where
  ex : ∃ f fd, FnOk P w K mg base (L2N.CX P w) k f fd ps (SpX K ps c) ∧ Meth K C m f ∧ Binds K fd ps []
section
variable {X : Cx} {W : WX} {ρ : REnv} {μ μ1 μ2 : Sto} {o e : Expr} {es : List Expr} {C : Addr} {fs : List (Str × PyData)} {m : Str} {k : Nat} {ps : List Str} {cn : ConX} {rs : List Ent} {oo : Res} {pos apos : Pos}
theorem EVR.meth {pl : Sem Bool} (ho : EV X o ρ μ (.obj C fs) μ1) (cl : Cls X.K C) (hm : MthX X.prog X.w X.K X.mg X.base C m k ps cn) (tk : L2N.Takes X W) (hr : Room k X.A) (hl : fs.lookup m = none) (ha : AV X (e :: es) ρ μ1 rs μ2) (hC : cn (.obj C fs :: rs) μ2 oo) (hps : rs.length + 1 = ps.length := by rfl)
    (hst : starEach (e :: es) X.env = (false, eval e X.env) :: starEach es X.env := by rfl) (hpl : (backTo pos (starEach es X.env)).any (·.1) = false := by rfl)
    (ht : eval (.Call (.Attribute o m apos) (e :: es) [] pos) X.env = (do
      let ov ← eval o X.env
      standAt apos.atName
      let (f, first) ← holding [ov] (getMethod ov m pl)
      callWith pos f first (backTo pos (starEach (e :: es) X.env)) (backToKw pos (keywordEach [] X.env))) := by rfl) : EVR X W (.Call (.Attribute o m apos) (e :: es) [] pos) ρ μ oo := by
  intro w σ H m0 s Q q
  obtain ⟨g, fd, F, me, bi⟩ := hm.ex
  refine ⟨_, pe_methS (E := WE W) (pl := pl) (p_ex (e := o)) cl me F hr bi (fun σ => L2N.passAt tk σ) (p_ax (e := e :: es)) hst hpl ht, ?_⟩
  refine ho w σ H m0 s _ fun v H1 m1 f1 h1 => ?_
  have h1' := h1
  obtain ⟨x, dx, ws, rfl, hx, hn, hd⟩ := h1
  refine ⟨x, dx, ws, rfl, (dl_some hx).2, lk_none hn hl, ?_⟩
  refine ha w σ H1 m1 (s.fr f1) _ fun vs H2 m2 f2 h2 => ?_
  refine ⟨w, μ2, .obj C fs :: rs, oo, m2, Vas.cons (r := .obj C fs) (h1'.fr f2) h2, (show (Ent.obj C fs :: rs).length = ps.length from hps), hC, ?_⟩
  cases oo with
  | ok r μ3 => exact fun v H3 m3 f3 h3 => q v H3 m3 ((f1.trans f2).trans f3) h3
  | rse C fs μ3 => exact fun od H3 m3 f3 h3 => q od H3 m3 ((f1.trans f2).trans f3) h3
end
end J
/-! J41: try: .. except C: raise D(x) from None; class methods that may raise. -/
namespace J
open PySem PySem.Spec
open PyProof.Rows L2
variable [KC]
section
variable {X : Cx} {W : WX} {ρ : REnv} {μ μ1 : Sto} {e : Expr} {pos p kpos : Pos} {n f : Str} {C : Addr} {k : Nat} {ps : List Str} {d : PyData} {Chk : PyData → Option (Addr × List (Str × PyData)) → Prop} {o : Option (Addr × List (Str × PyData))}
/-- a class in a local name, called: it may raise -/
theorem EVR.makeL {i : Nat} {nb : Str} (M : MakX X.prog X.w X.K X.mg X.base nb C f k ps Chk) (tk : L2N.Takes X W) (hr : Room (k + 1) X.A) (h0 : ρ[i]? = some (some (.raw (.ref C)))) (ha : EV X e ρ μ (.dat d) μ1) (hC : Chk d o)
    (hN : X.N[i]? = some n := by rfl) (hv : Vis X.env.scope n := by first | exact .inl rfl | exact .inr (.inl rfl) | exact .inr (.inr rfl)) (hs : starEach [e] X.env = (false, eval e X.env) :: starEach [] X.env := by rfl) (hdb : (n == ("__debug__" : Str)) = false := by decide) (hcd : (n == ("__classdict__" : Str)) = false := by decide)
    (hpl : (backTo pos (starEach [] X.env)).any (·.1) = false := by rfl) (hps : ps.length = 2 := by rfl) : EVR X W (.Call (.Name n p) [e] [] pos) ρ μ (mkRes C f d μ1 o) := by
  intro w σ H m s Q q
  obtain ⟨g, fd, F, mk, hm, bi, _⟩ := M.ex
  refine ⟨fun σ H Q => σ[i]? = some (some (.ref C)) ∧ tCons (EX X e) tNil σ H fun vs H1 => vs.length = 1 ∧ ∀ x dx, H1 x = none → H1 dx = none → dx ≠ x → spInitX X.K C f Chk (.ref x :: vs) (upd (upd H1 dx (.own x)) x (.ins C dx [])) (fun v H2 => v = .non ∧ Q (.ref x) H2) (WE W σ), ⟨fun pins s0 σ0 H0 Q0 I h => ?_⟩, ?_⟩
  · obtain ⟨h0, h⟩ := h
    refine wpAny_Call_Name_kw (thn ((pe_var (pos := p) hN hv hdb hcd).run pins s0 σ0 H0 (fun v G => v = .ref C ∧ G = H0) I ⟨.ref C, h0, rfl, rfl⟩) fun u0 s1 ⟨v0, G0, I0, r0, z0⟩ => ?_)
    obtain ⟨rfl, rfl⟩ := z0
    obtain rfl : u0 = Value.ref C := r0
    refine PySem.W.callWith_K (h₀ := X.base) I.ok.mod.kin mk.kp (thn ((pa_cons (p_ex (e := e)) pa_nil hs).run pos pins s1 σ0 _ _ I0 h) fun us s2 ⟨vs, H1, I1, r, hl, z⟩ => ⟨I1.kIn, ?_⟩) hs hpl
    have hul : us.length = 1 := r.length.symm.trans hl
    have r' : Vals vs (us ++ []) := by rw [List.append_nil]; exact r
    exact run_makeS (ks := []) (ws := []) mk F hr (fun s u ki => by
      have := bi s (u :: us) ki (by rw [List.append_nil, hps, List.length_cons, hul])
      rw [List.append_nil] at this
      rw [List.append_nil]
      exact this) (L2N.passAt tk σ0) I1 r' z
  · obtain ⟨v0, hv0, rfl⟩ := s.at_ i _ h0
    refine ⟨hv0, ?_⟩
    refine ha w σ H m s _ fun v H1 m1 f1 h1 => ?_
    refine ⟨rfl, fun x dx hx hdx hne => ?_⟩
    refine make_endX (H1 := H1) m1 h1 hC hx hdx hne ?_
    cases o with
    | none => exact fun u H2 m2 f2 h2 => q u H2 m2 (f1.trans f2) h2
    | some cf => exact fun od H2 m2 f2 h2 => q od H2 m2 (f1.trans f2) h2
end
/-- an exception's __init__, also where another is handled -/
structure ExcKH (P : Program) (w : World) (K : PySem.W.Frag) (mg : Str → Option Value) (base : Heap) (n : Str) (C : Addr) (f : Str) : Prop where
  k : ExcK P w K mg base n C f
  ini : ∃ fI fd, PySem.W.findIn K (.ref C) "__init__" = some (some (.ref fI)) ∧ PySem.W.typeIn K (.ref fI) = some (.type "function") ∧ L2H.FnH P w K mg base CX0 1 fI fd ["self", f] (spXI C f) ∧ Binds K fd ["self", f] []
theorem okXIH {P : Program} {w : World} {K : PySem.W.Frag} {mg : Str → Option Value} {base : Heap} {C fI : Addr} {fd : FuncData} {qual f : Str} {st : Stmt} {p1 p2 p3 pos : Pos} (F : Fun K "__init__" qual st fI fd) (Sc : FnScope ["self", f] ["self", f] (defScope st)) (oe : OexC K C) (no : PySem.W.findIn K (.ref C) f = some none) (hb : defBody st = [.Assign [.Attribute (.Name "self" p1) f p2] (.Name f p3) pos])
    (hv : Vis (defScope st) f) (hv0 : Vis (defScope st) "self") (hd : (f == ("__debug__" : Str)) = false := by decide) (hcd : (f == ("__classdict__" : Str)) = false := by decide) : L2H.FnH P w K mg base CX0 1 fI fd ["self", f] (spXI C f) := by
  obtain ⟨oc, od, kV, doc, pm, an, cdv, ct, osl, rfl, lk, hcode⟩ := F.ex
  refine L2H.fn_ofH lk hcode Sc (fun vs H Q E h => ?_) fun A outer s H vs Q E q hot room h => ?_
  · obtain ⟨a, v, rfl, _⟩ := h
    rfl
  · obtain ⟨a, v, rfl, ha, z⟩ := h
    rw [hb]
    refine ⟨_, pss_one (ps_ost (pe_var (i := 0) rfl hv0) (pe_var (i := 1) rfl hv hd hcd)), ?_⟩
    exact ⟨v, rfl, .ref a, rfl, a, C, rfl, oe, no, .inl ⟨ha, z⟩⟩
section
variable {X : Cx} {W : WX} {ρ : REnv} {μ : Sto} {d : PyData} {x y n f : Str} {Ce Ct : Addr} {k nn i : Nat} {P Pb : Out → Prop} {body rest : List Stmt} {np p p2 pos pos' pos2 pos3 cpos : Pos} {j : Nat}
/-- try: body except x: raise n(y) from None -/
theorem ST.tryX (hst : X.stack = X.env :: X.outer) (hfr : X.env.frame = some X.env.locals) (hx : Names X x (.ref Ce)) (hpa : ∀ hd : Option Value, PassesOwnAt (model X.prog X.w) (X.A.mark hd) X.A X.env X.xe) (tk : L2.Takes X W) (hm : PySem.W.exmOne X.K (.ref Ce) (.ref Ce) = some true) (M : ExcKH X.prog X.w X.K X.mg X.base n Ct f) (hr : Room k X.A) (hk : 2 ≤ k)
    (hN : X.N[i]? = some y) (hv : Vis X.env.scope y) (hρ : ρ[i]? = some (some (.dat d)))
    (hb : ∀ (W' : WX) (pn : List (Addr × Obj)) (xe : Value → Shared → Prop), L2N.Takes (X.tr pn xe) W' → ST (X.tr pn xe) W' nn body ρ μ Pb)
    (hret : ∀ r ν, Pb (.ret r ν) → P (.ret r ν)) (hnx : ∀ ρ' ν, ¬ Pb (.nx ρ' ν)) (hbk : ∀ ρ' ν, ¬ Pb (.brk ρ' ν)) (hct : ∀ ρ' ν, ¬ Pb (.ct ρ' ν)) (hrse : ∀ ρ' ν C fs, Pb (.rse ρ' ν C fs) → C = Ce ∧ ρ' = ρ ∧ P (.rse ρ' ν Ct [(f, d)]))
    (hg : Gl X n := by rfl) (hdb : (n == ("__debug__" : Str)) = false := by decide) (hdy : (y == ("__debug__" : Str)) = false := by decide) (hcy : (y == ("__classdict__" : Str)) = false := by decide) (he : starEach [.Name y p2] X.env = (false, eval (.Name y p2) X.env) :: starEach [] X.env := by rfl) (hpl : (backTo pos2 (starEach [] X.env)).any (·.1) = false := by rfl) :
    ST X W nn (.Try body [.ExceptHandler (some (.Name x np)) none [.Raise (some (.Call (.Name n p) [.Name y p2] [] pos2)) (some (.Constant .none j cpos)) pos] pos'] [] [] pos3 :: rest) ρ μ P := by
  intro w σ H D hn m s q
  obtain ⟨gI, fd, hi, ht, FH, bi⟩ := M.ini
  refine ⟨_, pss_cons (L2H.ps_try_onlyX (tb := fun W' D σ H => ∀ (pn : List (Addr × Obj)) (xe : Value → Shared → Prop), L2N.Takes (X.tr pn xe) W' → SX (X.tr pn xe) body D σ H)
    (ts := fun a cls d0 D σ H => (tMkO Ct (spXI Ct f) [] (tCons (tVar i) tNil)) σ H fun cls od H' => W cls od σ H') hst hfr hx hpa tk (fun W' pn xe t1 t2 t3 => ⟨fun pins s0 σ0 H0 D0 I h => (h pn xe t1).elim fun t z => z.1.run pins s0 σ0 H0 D0 I z.2⟩) (fun a oe cls d0 pn hz hf tkS hot => ?_)) pss_never, ?_⟩
  · exact pss_one (L2H.ps_raiseHN (X := L2H.suiteX X a ((a, oe) :: pn)) hot tkS (L2H.pmk5_oexH (X := L2H.suiteX X a ((a, oe) :: pn)) (CX := CX0) M.k.oex hi ht FH (L2H.roomH_mark (hr.mono hk) _) hot bi pass0 hg M.k.at_ (pa_cons (pe_var (X := L2H.suiteX X a ((a, oe) :: pn)) hN hv hdy hcy) pa_nil he) hdb he hpl))
  · intro pn xe t1
    refine hb _ pn xe t1 w σ H _ hn m s fun o ho => ?_
    cases o with
    | ret r ν => exact q _ (hret _ _ ho)
    | nx ρ' ν => exact (hnx _ _ ho).elim
    | brk ρ' ν => exact (hbk _ _ ho).elim
    | ct ρ' ν => exact (hct _ _ ho).elim
    | rse ρ' ν C fs =>
      obtain ⟨rfl, rfl, hP⟩ := hrse _ _ _ _ ho
      intro od β σ' H' m' s' f' hb' hx'
      refine ⟨true, hm, fun _ a na => ?_, fun z => by cases z⟩
      obtain ⟨v, hv', hval⟩ := s'.at_ i _ hρ
      refine ⟨v, hv', by simp, fun a2 na2 => ⟨a2, v, rfl, upd_same, fun dx hd hne => ⟨rfl, dx, [(f, v)], upd_same, ?_, ?_, ?_⟩⟩⟩
      · rw [upd_ne hne, upd_same]
      · rwa [upd_ne hne] at hd
      · have hd' : H' dx = none := by rwa [upd_ne hne] at hd
        obtain ⟨m2, f2, x2⟩ := exc_end (f := f) (o1 := exo a2 Ct none) (o2 := exd dx [(f, v)]) (o3 := exo a2 Ct (some dx)) m' hval na2 hd' hne
        refine q _ hP (some dx) β σ' _ m2 (s'.fr f2) (fun b o e hb1 nt => ?_) hb' x2
        refine f2 b o (f' b o e hb1 nt) (fun z => ?_) nt
        rcases List.mem_append.mp z with z | z
        · exact hb1 z
        · exact hb' b z o e nt
end
/-! ### class methods that may raise -/
structure CMthX (P : Program) (w : World) (K : PySem.W.Frag) (mg : Str → Option Value) (base : Heap) (C : Addr) (m : Str) (k : Nat) (c : ConX) : Prop where
  ex : ∃ mc p g fd, ClX.CRead K C mc ∧ ClX.CMet K C mc m p g ∧ FnOk P w K mg base (L2.CX P w) k g fd ["cls", "text"] (SpX K ["cls", "text"] c) ∧ Binds K fd ["cls", "text"] []
section
variable {X : Cx} {W : WX} {ρ : REnv} {μ μ1 μ2 μ3 : Sto} {e o : Expr} {es : List Expr} {pos p apos kpos : Pos} {n m : Str} {C : Addr} {k : Nat} {cn : ConX} {r : Ent} {oo : Res} {mc : Value} {pm g : Addr} {fd : FuncData} {sp : Sp} {ps : List Str}
theorem run_cmS {Y : CXT} {E : XK} {pins : List (Addr × Obj)} {σ : L2.St} {H : Hp} {s : Shared} {q : Addr} {Q : VK} {ws : List Value} {zs : List V} (F : FnOk X.prog X.w X.K X.mg X.base Y k g fd ps sp) (hb : Binds X.K fd ps []) (hr : Room k X.A) (hx : PassesAt Y X σ E)
    (I : Inv X ((q, PySem.W.methodObj (.ref g) (.ref C)) :: pins) σ H s) (rz : Vals zs ws) (h : sp (.ref C :: zs) H Q E) : wpAny (model X.prog X.w) X.A (call (.ref q) ws) (EP X pins σ Q) X.xe s := by
  have rr : Vals (V.ref C :: zs) (Value.ref C :: ws) := .cons rfl rz
  have many : (Value.ref C :: ws ++ []).length = ps.length := by
    rw [List.append_nil, ← F.len _ _ _ _ h]
    exact rr.length.symm
  have bnd := hb s (Value.ref C :: ws) I.kIn many
  rw [List.append_nil] at bnd
  have z0 : wpAny (model X.prog X.w) X.A (call (.ref q) ws) (EP X ((q, PySem.W.methodObj (.ref g) (.ref C)) :: pins) σ Q) X.xe s := by
    refine wpAny_call (PySem.W.method_call (ClX.pin_at I) (codeAny_mono (F.run X.A X.stack s H ⟨.ref C :: ws, []⟩ (.ref C :: ws) (.ref C :: zs) Q E hr I.env0 bnd rr h) fun r s' hq => ?_))
    match r, hq with
    | .error ee, hq => exact hx _ H s ee s' I hq
    | .ok (.ret u), hq => exact I.after hq
  exact thn z0 fun _ _ y => ClX.unpinE y
theorem EVR.cmeth {pl : Sem Bool} (M : CMthX X.prog X.w X.K X.mg X.base C m k cn) (tk : L2.Takes X W) (hm : X.mg n = some (.ref C)) (hr : Room k X.A) (ha : EV X e ρ μ r μ1) (hC : cn [.raw (.ref C), r] μ1 oo) (hg : Gl X n := by rfl) (hdb : (n == ("__debug__" : Str)) = false := by decide)
    (hs : starEach [e] X.env = (false, eval e X.env) :: starEach [] X.env := by rfl) (hpl : (backTo pos (starEach [] X.env)).any (·.1) = false := by rfl)
    (ht : eval (.Call (.Attribute (.Name n p) m apos) [e] [] pos) X.env = (do
      let ov ← eval (.Name n p) X.env
      standAt apos.atName
      let (f, first) ← holding [ov] (getMethod ov m pl)
      callWith pos f first (backTo pos (starEach [e] X.env)) (backToKw pos (keywordEach [] X.env))) := by rfl) : EVR X W (.Call (.Attribute (.Name n p) m apos) [e] [] pos) ρ μ oo := by
  intro w σ H m0 s Q q
  obtain ⟨mc, pm, g, fd, rd, cm, F, bi⟩ := M.ex
  refine ⟨fun σ H Q => tCons (EX X e) tNil σ H fun vs H2 => (SpX X.K ["cls", "text"] cn) (.ref C :: vs) H2 Q (WE W σ), ⟨fun pins s0 σ0 H0 Q0 I h => ?_⟩, ?_⟩
  · refine PySem.W.methodCall_KW (pl := pl) (thn ((pe_glob (v := .ref C) (pos := p) hg hm rfl hdb).run pins s0 σ0 H0 (fun v G => v = .ref C ∧ G = H0) I ⟨rfl, rfl⟩) fun u s1 ⟨x, G1, I1, rx, z⟩ => ?_) ht
    obtain ⟨rfl, rfl⟩ := z
    obtain rfl : u = Value.ref C := rx
    refine ClX.getmethcm_ok I1 rd cm fun s2 I2 => ?_
    refine ClX.callwith_cm I2 (ClX.base_none I1 (Nat.le_refl _)) cm.fi (thn ((pa_cons (p_ex (e := e)) pa_nil hs).run pos _ s2 σ0 _ _ I2 h) fun us s3 ⟨vs, H2, I3, rv, q2⟩ => ⟨⟨ClX.pin_at I3, I3.kIn⟩, ?_⟩) hs hpl
    exact run_cmS F bi hr (passAt tk σ0) I3 rv q2
  · refine ha w σ H m0 s _ fun v H1 m1 f1 h1 => ?_
    refine ⟨w, μ1, [.raw (.ref C), r], oo, m1, .cons (r := .raw (.ref C)) rfl (.cons h1 .nil), rfl, hC, ?_⟩
    cases oo with
    | ok r μ3 => exact fun v H3 m3 f3 h3 => q v H3 m3 (f1.trans f3) h3
    | rse C fs μ3 => exact fun od H3 m3 f3 h3 => q od H3 m3 (f1.trans f3) h3
end
section
variable {w : World} {P : Program} {K : PySem.W.Frag} {base : Heap} {mg : Str → Option Value}
/-- a def that may raise, whatever the context of what it raises -/
theorem fnx_mkL {x qual : Str} {st : Stmt} {f : Addr} {fd : FuncData} {N ps : List Str} {k : Nat} {C : ConX} (F : Fun K x qual st f fd) (Sc : FnScope N ps (defScope st)) (hN : ps.length ≤ N.length)
    (body : ∀ (cdv : Value) (A : Around) (outer : List Env) (s : Shared) (H : Hp) (E : XK), Room k (A.deeper (envOfC qual (defScope st) s.heap.objs.size f cdv)) → ∀ rs μ o, rs.length = ps.length → C rs μ o →
      ST (cxOf (L2.CX P w) P w K mg base N qual (defScope st) f cdv A outer s H E) (fun cls d _ H => E cls d H) μ.length (defBody st) (rs.map some ++ List.replicate (N.length - rs.length) none) μ (PostX μ.length o)) : FnOk P w K mg base (L2.CX P w) (k + 1) f fd ps (SpX K ps C) := by
  refine F.okX Sc (fun vs H Q E h => ?_) (fun cdv A outer s H vs Q E hr h => ?_)
  · obtain ⟨w0, μ, rs, o, _, hv, hl, _⟩ := h
    rw [hv.1, hl]
  · obtain ⟨w0, μ, rs, o, m, hv, hl, hC, q⟩ := h
    have hb := body cdv A outer s H E hr rs μ o hl hC
    refine hb w0 _ H _ (Nat.le_of_eq m.len.symm) m (sl_start hv (by omega)) fun oo ho => ?_
    have hw : w0.cut μ.length = w0 := by
      show (⟨w0.α.take μ.length, w0.ξ⟩ : Wd) = w0
      rw [← m.len, List.take_length]
    have hwb : ∀ β, (w0.add β).cut μ.length = w0 := fun β => by
      show (⟨(w0.α ++ β).take μ.length, w0.ξ⟩ : Wd) = w0
      rw [← m.len, List.take_left]
    cases oo with
    | ret r2 μ2 =>
      have e : o = .ok r2 μ2 := ho
      subst e
      intro v H' m' f' hv'
      rw [hw] at m' hv'
      exact q v H' m' f' hv'
    | nx ρ2 μ2 =>
      obtain ⟨ν, μ0, rfl, hl0, rfl⟩ := ho
      intro β σ' H' m' s' f' hb'
      have mc := m'.cut μ.length
      rw [hwb, ← hl0, List.take_left] at mc
      exact q .non H' mc f' Dq.non
    | brk ρ2 μ2 => exact False.elim ho
    | ct ρ2 μ2 => exact False.elim ho
    | rse ρ2 μ2 C2 fs =>
      have e : o = .rse C2 fs (μ2.take μ.length) := ho
      subst e
      intro od β σ' H' m' s' f' hb' hx
      have mc := m'.cut μ.length
      rw [hwb] at mc
      refine q od H' mc f' (hx.sub fun b hb2 => ?_)
      rcases List.mem_append.mp hb2 with z | z
      · exact List.mem_append_left _ (List.mem_append_left _ z)
      · exact List.mem_append_right _ z
end
end J
/-! J50: statements one behind another; defs that return a list that is new, behind any statements. -/
namespace J
open PySem PySem.Spec
open PyProof.Rows L2
variable [KC]
theorem wp_execs_app {M : Model} {Γ : PySem.Ctx} {env : Env} {b : List Stmt} {Q : Flow → Pos → Shared → Prop} {E : Value → Pos → Shared → Prop} : ∀ (a : List Stmt) (p : Pos) (s : Shared), Sem.wp M Γ (execs a env) (fun f p' s' => match f with | .next => Sem.wp M Γ (execs b env) Q E p' s' | f => Q f p' s') E p s → Sem.wp M Γ (execs (a ++ b) env) Q E p s
  | [], p, s, h => h
  | st :: a, p, s, h => by
    show Sem.wp M Γ (execs (st :: (a ++ b)) env) Q E p s
    rw [execs_cons, Sem.wp_bind'] at h ⊢
    refine Sem.wp_mono M Γ _ (fun f p' s' h' => ?_) (fun _ _ _ h' => h') _ _ h
    cases f with
    | next => exact wp_execs_app a p' s' h'
    | ret v => exact h'
    | brk => exact h'
    | cont => exact h'
theorem sx_app {X : Cx} {a b : List Stmt} {D : Ends} {σ : L2.St} {H : Hp} (h : SX X a { D with nx := SX X b D } σ H) : SX X (a ++ b) D σ H := by
  refine ⟨fun D σ H => SX X a { D with nx := SX X b D } σ H, ⟨fun pins s σ H D I h => ?_⟩, h⟩
  intro Γ p hΓ
  refine wp_execs_app a p s ?_
  have z := (p_sx (X := X) (e := a)).run pins s σ H _ I h Γ p hΓ
  refine Sem.wp_mono _ Γ _ (fun f p' s' h' => ?_) (fun _ _ _ h' => h') _ _ z
  cases f with
  | next =>
    obtain ⟨σ', H', I', q⟩ := h'
    exact (p_sx (X := X) (e := b)).run pins s' σ' H' D I' q Γ p' hΓ
  | ret v => exact h'
  | brk => exact h'
  | cont => exact h'
section
variable {w : World} {P : Program} {K : PySem.W.Frag} {base : Heap} {mg : Str → Option Value}
theorem Df.calFr {x : Str} {st : Stmt} {N ps : List Str} {k : Nat} {C : List Ent → Sto → List PyData → Prop} (D : Df K mg x st) (Sc : FnScope N ps (defScope st))
    (hb : ∀ (kV doc pm : Value) (an : Option Addr) (cdv ct : Value) (us : List Value), us.length = ps.length → bindArgs (PySem.W.fnOf x x (defArgs st) (defBody st) (defScope st) .none kV doc pm an cdv ct) ⟨us, []⟩ = pure (ps.zip us))
    (hN : ps.length ≤ N.length) {pre : List Stmt} {e : Expr} {pos : Pos} (hbody : defBody st = pre ++ [.Return (some e) pos])
    (body : ∀ (f : Addr) (cdv : Value) (A : Around) (outer : List Env) (s : Shared) (H : Hp) (E : XK), Room k (A.deeper (envOfC x (defScope st) s.heap.objs.size f cdv)) → ∀ rs μ xs, C rs μ xs →
      ST (cxOf CX0 P w K mg base N x (defScope st) f cdv A outer s H E).nox W0 μ.length pre (rs.map some ++ List.replicate (N.length - rs.length) none) μ (fun
        | .nx ρ ν => ν = μ ∧ EVF (cxOf CX0 P w K mg base N x (defScope st) f cdv A outer s H E).nox e ρ μ xs μ
        | _ => False)) : CalF P w K mg base x (k + 1) ps C := by
  obtain ⟨f, fd, F, hm⟩ := D.ex
  refine ⟨f, fd, F.ok Sc (fun vs H Q E h => ?_) (fun cdv A outer s H vs Q E hr h => ?_), hm, F.kp, F.binds hb⟩
  · obtain ⟨w0, μ, rs, xs, _, hv, hl, _⟩ := h
    exact hv.1.trans hl
  · obtain ⟨w0, μ, rs, xs, m, hv, hl, hC, q⟩ := h
    rw [hbody]
    refine sx_app ?_
    refine body f cdv A outer s H E hr rs μ xs hC w0 _ H _ (Nat.le_of_eq m.len.symm) m (sl_start hv (by omega)) fun oo ho => ?_
    match oo, ho with
    | .nx ρ ν, ho =>
      obtain ⟨rfl, hE⟩ := ho
      intro β σ' H' m' s' f' hb'
      have hβ : β = [] := by
        have e1 := m'.len
        have e2 := m.len
        have e3 : (w0.add β).α.length = w0.α.length + β.length := List.length_append
        exact List.length_eq_zero_iff.mp (by omega)
      subst hβ
      rw [add_nil] at m' s'
      refine ⟨_, pss_one (ps_ret p_ex), ?_⟩
      refine use_evf hE m' s' fun p H2 us m2 f2 hp e2 hd => q p H2 us m2 (f'.trans f2) (fresh_of m' f' hp) e2 hd
end
end J
/-! KC1: the laws' cup and its sips. -/
namespace GC
open PySem J
variable [KC]
structure Cu where
  g : Int
  m : Int
  c : Int
def Cu.ds (p : Cu) : List PyData := [.int p.g, .int p.m, .int p.c]
def Cu.ok (p : Cu) : Prop := 0 ≤ p.g ∧ 0 ≤ p.m ∧ p.m < 2147483477
def mixA (p : Cu) : Int := (p.m * 48271 + 6089 * (p.c + 1)) % 2147483477
def sip (t : Int) (p : Cu) : Int × Cu :=
  if 0 < p.g then (p.g % t, ⟨p.g / t, p.m, p.c + 1⟩) else (mixA p / 1024 % t, ⟨p.g, mixA p, p.c + 1⟩)
theorem sip_ok {t : Int} {p : Cu} (h : p.ok) (ht : 0 < t) : 0 ≤ (sip t p).1 ∧ (sip t p).1 < t ∧ (sip t p).2.ok := by
  obtain ⟨h1, h2, h3⟩ := h
  have a1 : 0 ≤ mixA p := Int.emod_nonneg _ (by decide)
  have a2 : mixA p < 2147483477 := Int.emod_lt_of_pos _ (by decide)
  unfold sip
  split
  · exact ⟨Int.emod_nonneg _ (by omega), Int.emod_lt_of_pos _ ht, Int.ediv_nonneg h1 (by omega), h2, h3⟩
  · exact ⟨Int.emod_nonneg _ (by omega), Int.emod_lt_of_pos _ ht, h1, a1, a2⟩
def run {α β : Type} (f : β → Cu → α × Cu) : List β → Cu → List α × Cu
  | [], p => ([], p)
  | b :: bs, p => ((f b p).1 :: (run f bs (f b p).2).1, (run f bs (f b p).2).2)
theorem run_snoc {α β : Type} (f : β → Cu → α × Cu) : ∀ (bs : List β) (b : β) (p : Cu), run f (bs ++ [b]) p = ((run f bs p).1 ++ [(f b (run f bs p).2).1], (f b (run f bs p).2).2)
  | [], b, p => rfl
  | x :: bs, b, p => by
    have := run_snoc f bs b (f x p).2
    show ((f x p).1 :: (run f (bs ++ [b]) (f x p).2).1, (run f (bs ++ [b]) (f x p).2).2) = _
    rw [this]
    rfl
theorem run_len {α β : Type} (f : β → Cu → α × Cu) : ∀ (bs : List β) (p : Cu), (run f bs p).1.length = bs.length
  | [], p => rfl
  | b :: bs, p => by
    show ((f b p).1 :: (run f bs (f b p).2).1).length = _
    rw [List.length_cons, run_len f bs, List.length_cons]
theorem run_ok {α β : Type} {f : β → Cu → α × Cu} {R : β → α → Prop} : ∀ (bs : List β) (p : Cu), (∀ b ∈ bs, ∀ q, q.ok → R b (f b q).1 ∧ (f b q).2.ok) → p.ok → (∀ x ∈ (run f bs p).1, ∃ b ∈ bs, R b x) ∧ (run f bs p).2.ok
  | [], p, hf, h => ⟨fun x hx => by simp [run] at hx, h⟩
  | b :: bs, p, hf, h => by
    obtain ⟨h1, h2⟩ := hf b List.mem_cons_self p h
    obtain ⟨h3, h4⟩ := run_ok bs (f b p).2 (fun c hc => hf c (List.mem_cons_of_mem _ hc)) h2
    refine ⟨fun x hx => ?_, h4⟩
    have hx' : x ∈ (f b p).1 :: (run f bs (f b p).2).1 := hx
    rcases List.mem_cons.mp hx' with rfl | hx
    · exact ⟨b, List.mem_cons_self, h1⟩
    · obtain ⟨c, hc, r⟩ := h3 x hx
      exact ⟨c, List.mem_cons_of_mem _ hc, r⟩
end GC
namespace J
open PySem PySem.Spec
open PyProof.Rows L2
variable [KC]
/-- [.. for ..] each of whose items sips -/
theorem LCV.runC {X : Cx} {ρ : REnv} {μ μ1 : Sto} {tg iter elt : Expr} {scope : Scope} {own : List (Str × Nat)} {α β : Type} {k : Nat} {p : GC.Cu} {bs : List β} (h : β → PyData) (g : α → PyData) (f : β → GC.Cu → α × GC.Cu) (hi : IV X tg iter ρ μ (bs.map h) μ1) (h1 : μ1 = μ1.set k p.ds) (hp : p.ok) (hf : ∀ b ∈ bs, ∀ q, q.ok → (f b q).2.ok)
    (hs : ∀ b ∈ bs, ∀ q, q.ok → ∃ ρ', (∀ s H C cl fp, GV (blkX X scope s H C cl fp) tg (h b) (wipeE ρ (own.map (·.2))) ρ' (own.map (·.2))) ∧ (∀ s H C cl fp, EV (blkX X scope s H C cl fp) elt ρ' (μ1.set k q.ds) (.dat (g (f b q).1)) (μ1.set k (f b q).2.ds)))
    (hl : bs.length ≤ 100000) : LCV X elt tg iter [] scope own ρ μ ((GC.run f bs p).1.map g) (μ1.set k (GC.run f bs p).2.ds) := by
  have hok : ∀ i, (GC.run f (bs.take i) p).2.ok := fun i => (GC.run_ok (R := fun _ _ => True) (bs.take i) p (fun b hb q hq => ⟨trivial, hf b (List.mem_of_mem_take hb) q hq⟩) hp).2
  refine LCV.mk hi (fun i acc ν => acc = (GC.run f (bs.take i) p).1.map g ∧ ν = μ1.set k (GC.run f (bs.take i) p).2.ds) ⟨by simp [GC.run], h1⟩ (fun i d acc ν e hI => ?_) (fun acc ν hI => ?_) (by simpa using hl)
  · obtain ⟨rfl, rfl⟩ := hI
    rw [List.getElem?_map] at e
    cases q : bs[i]? with
    | none => rw [q] at e; cases e
    | some b =>
      rw [q] at e
      cases e
      have tk : bs.take (i + 1) = bs.take i ++ [b] := by
        rw [List.take_succ, q]
        rfl
      obtain ⟨ρ', a1, a2⟩ := hs b (List.mem_iff_getElem?.mpr ⟨i, q⟩) _ (hok i)
      refine ⟨ρ', a1, true, _, .inl ⟨rfl, rfl, rfl⟩, iteT ⟨_, _, a2, ?_, ?_⟩⟩
      · rw [tk, GC.run_snoc, List.map_append]
        rfl
      · rw [tk, GC.run_snoc]
  · rw [List.length_map, List.take_length] at hI
    exact hI
section
variable {w : World} {P : Program} {K : PySem.W.Frag} {base : Heap} {mg : Str → Option Value}
abbrev nSip : List Str := ["_law_cup_here", "_law_top", "_law_digit"]
theorem scSip : FnScope nSip ["_law_cup_here", "_law_top"] (defScope sLSip) := ⟨rfl, rfl, rfl, by decide +kernel, rfl, by decide +kernel, by decide +kernel⟩
def cnSip : Con := fun rs μ r μ' => ∃ (k : Nat) (p : GC.Cu) (m : Int), rs = [.ptr k, Ii m] ∧ (μ[k]? = some p.ds ∧ p.ok ∧ 0 < m ∧ m ≤ 100000) ∧ r = Ii (GC.sip m p).1 ∧ μ' = μ.set k (GC.sip m p).2.ds
abbrev CSip (P : Program) (w : World) (K : PySem.W.Frag) (mg : Str → Option Value) (base : Heap) : Prop := Cal P w K mg base "_law_sip" 1 ["_law_cup_here", "_law_top"] cnSip
theorem cSip (T : Bt mg) (D : Df K mg "_law_sip" sLSip) : CSip P w K mg base := by
  refine D.cal scSip (fun _ _ _ _ _ _ us hl => match us, hl with | [_, _], _ => rfl) (by decide) (fun rs μ r μ' h => by obtain ⟨_, _, _, _, _, _, rfl⟩ := h; simp) fun f cdv A outer s H E hr rs μ r μ' hC => ?_
  obtain ⟨k, p, m, rfl, ⟨hk, ⟨a1, a2, a3⟩, m1, m2⟩, rfl, rfl⟩ := hC
  refine ST.asgW (oAdd (ixC (nm 0) EV.int hk (at_nat (i := 2) rfl)) EV.int) (GW.sub (j := 2) (nm 0) EV.int hk (Nat.le_of_ble_eq_true rfl)) ?_
  have h1 := at_set (es := [.int p.g, .int p.m, .int (p.c + 1)]) hk
  refine ST.ifR (tGt (ixC (nm 0) EV.int h1 (at_nat (i := 0) rfl)) EV.int) (fun hb => ?_) (fun hb => ?_)
  · refine ST.asgW (EV.callB call_divmod T.divmod (by decide +kernel) (AV.cons (ixC (nm 0) EV.int h1 (at_nat (i := 0) rfl)) (AV.cons (nm 1) AV.nil)) (cv_divmod ⟨m1, by omega⟩)) (GW.tup (GsW.cons (GW.sub (j := 0) (nm 0) EV.int h1 (Nat.le_of_ble_eq_true rfl)) (GsW.cons (GW.name (i := 2) scSip.nd rfl (Or.inl rfl)) GsW.nil))) ?_
    have e : GC.sip m p = (p.g % m, ⟨p.g / m, p.m, p.c + 1⟩) := by
      unfold GC.sip
      rw [if_pos (of_decide_eq_true hb)]
    rw [e]
    refine ST.retP (nm 2) rfl ?_
    rw [List.set_set]
    exact take_set
  · have e : GC.sip m p = (GC.mixA p / 1024 % m, ⟨p.g, GC.mixA p, p.c + 1⟩) := by
      unfold GC.sip
      rw [if_neg (of_decide_eq_false hb)]
    rw [e]
    refine ST.asgW (oMod (bIntI T (oAdd (oMul (ixC (nm 0) EV.int h1 (at_nat (i := 1) rfl)) EV.int (.inr (by decide))) (oMul EV.int (ixC (nm 0) EV.int h1 (at_nat (i := 2) rfl)) (.inl (by decide))))) EV.int (by decide)) (GW.sub (j := 1) (nm 0) EV.int h1 (Nat.le_of_ble_eq_true rfl)) ?_
    have h2 := at_set (es := [.int p.g, .int (GC.mixA p), .int (p.c + 1)]) h1
    refine ST.retP (oMod (bIntI T (oDiv (ixC (nm 0) EV.int h2 (at_nat (i := 1) rfl)) EV.int ⟨by decide, by decide⟩)) (nm 1) m1) rfl ?_
    rw [List.set_set]
    exact take_set
/-- a sip -/
theorem EV.sip {X : Cx} {ρ : REnv} {μ : Sto} {a b : Expr} {p0 pos : Pos} {k n : Nat} {p : GC.Cu} {m : Int} (C1 : CSip X.prog X.w X.K X.mg X.base) (hr : Room n X.A) (hn : 1 ≤ n) (ha : EV X a ρ μ (.ptr k) μ) (hb : EV X b ρ μ (Ii m) μ) (hk : μ[k]? = some p.ds) (hp : p.ok) (h1 : 0 < m := by decide) (h2 : m ≤ 100000 := by decide)
    (hg : Gl X "_law_sip" := by rfl) (he : starEach [a, b] X.env = (false, eval a X.env) :: starEach [b] X.env := by rfl) (he2 : starEach [b] X.env = (false, eval b X.env) :: starEach [] X.env := by rfl) (hpl : (backTo pos (starEach [b] X.env)).any (·.1) = false := by rfl) : EV X (.Call (.Name "_law_sip" p0) [a, b] [] pos) ρ μ (Ii (GC.sip m p).1) (μ.set k (GC.sip m p).2.ds) :=
  EV.call C1 (hr.mono hn) (AV.cons ha (AV.cons hb AV.nil he2) he) ⟨k, p, m, rfl, ⟨hk, hp, h1, h2⟩, rfl, rfl⟩ rfl hg (by decide) he hpl
/-! ### cups -/
def cellC (ns : List Int) (k : Nat) : Int := (ns[k]?).getD ((k : Int) + 2)
def mixC : Int → PyData → Int
  | m, .int x => (m * 26021 + x) % 2147483477
  | m, _ => m
def cupOf (ns : List Int) (k : Nat) : GC.Cu := ⟨if cellC ns k < 0 ∨ 1000000000000000000 ≤ cellC ns k then absI (cellC ns k) else 0, (cutD (ns.map .int) none (some 4) ++ [PyData.int (cellC ns k)]).foldl mixC (50021 + 8017 * (k : Int)), 0⟩
theorem mix_range : ∀ (ds : List PyData) (m0 : Int), ds ≠ [] → (∀ d ∈ ds, ∃ x, d = .int x) → 0 ≤ ds.foldl mixC m0 ∧ ds.foldl mixC m0 < 2147483477
  | [], _, h, _ => absurd rfl h
  | [d], m0, _, hd => by
    obtain ⟨x, rfl⟩ := hd d List.mem_cons_self
    exact ⟨Int.emod_nonneg _ (by decide), Int.emod_lt_of_pos _ (by decide)⟩
  | d :: e :: ds, m0, _, hd => mix_range (e :: ds) (mixC m0 d) (by simp) fun x hx => hd x (List.mem_cons_of_mem _ hx)
theorem cup_ints (ns : List Int) (k : Nat) : ∀ d ∈ cutD (ns.map .int) none (some 4) ++ [PyData.int (cellC ns k)], ∃ x, d = .int x := fun d hd => by
  rcases List.mem_append.mp hd with hd | hd
  · obtain ⟨x, _, rfl⟩ := List.mem_map.mp (List.mem_of_mem_drop (List.mem_of_mem_take hd))
    exact ⟨x, rfl⟩
  · exact ⟨_, List.mem_singleton.mp hd⟩
theorem cup_ok (ns : List Int) (k : Nat) : (cupOf ns k).ok := by
  obtain ⟨h1, h2⟩ := mix_range (cutD (ns.map .int) none (some 4) ++ [PyData.int (cellC ns k)]) (50021 + 8017 * (k : Int)) (by simp) (cup_ints ns k)
  refine ⟨?_, h1, h2⟩
  have h : 0 ≤ absI (cellC ns k) := by
    unfold absI
    split <;> omega
  show 0 ≤ (if _ then absI (cellC ns k) else 0)
  split
  · exact h
  · exact Int.le_refl 0
abbrev nCup : List Str := ["_law_cells", "_law_turn", "_law_cell", "_law_mixed", "_law_each"]
theorem scCup : FnScope nCup ["_law_cells", "_law_turn"] (defScope sLCup) := ⟨rfl, rfl, rfl, by decide +kernel, rfl, by decide +kernel, by decide +kernel⟩
def cnCup : List Ent → Sto → List PyData → Prop := fun rs μ xs => ∃ (ns : List Int) (k : Nat), rs = [.scr ns, Ii (k : Int)] ∧ k ≤ 100 ∧ xs = (cupOf ns k).ds
theorem cCup (T : Bt mg) (D : Df K mg "_law_cup" sLCup) : CalF P w K mg base "_law_cup" 1 ["_law_cells", "_law_turn"] cnCup := by
  refine D.calFr (N := nCup) scCup (fun _ _ _ _ _ _ us hl => match us, hl with | [_, _], _ => rfl) (by decide) (pre := (defBody sLCup).take 3) rfl fun f cdv A outer s H E hr rs μ xs hC => ?_
  obtain ⟨ns, k, rfl, hk, rfl⟩ := hC
  refine ST.set (i := 2) (r := Ii (cellC ns k)) (μ1 := μ) (EV.ifx (tLt (nm 1) (bLenScr T (nm 0))) (fun hb => ?_) (fun hb => ?_)) scCup.nd rfl (Or.inl rfl) ?_
  · have hb' := of_decide_eq_true hb
    have e : ns[k]? = some ns[k] := by
      have : k < ns.length := by omega
      simp [this]
    have e2 : cellC ns k = ns[k] := by
      unfold cellC
      rw [e]
      rfl
    rw [e2]
    exact ixScr (nm 0) (nm 1) e
  · have hb' := of_decide_eq_false hb
    have e : ns[k]? = none := by
      have : ns.length ≤ k := by omega
      simp [this]
    have e2 : cellC ns k = (k : Int) + 2 := by
      unfold cellC
      rw [e]
      rfl
    rw [e2]
    exact oAdd (nm 1) EV.int
  refine ST.set (i := 3) (r := Ii (50021 + 8017 * (k : Int))) (oAdd EV.int (oMul EV.int (nm 1) (.inl (by decide)))) scCup.nd rfl (Or.inl rfl) ?_
  have hcs := cup_ints ns k
  have hgm : (cupOf ns k).m = (cutD (ns.map .int) none (some 4) ++ [PyData.int (cellC ns k)]).foldl mixC (50021 + 8017 * (k : Int)) := rfl
  have hc4 : (cutD (ns.map PyData.int) none (some 4)).length ≤ 4 := by
    unfold cutD
    rw [List.length_take]
    have : HT.sIx (ns.map PyData.int).length (ns.map PyData.int).length (some 4) = min 4 (ns.map PyData.int).length := HT.sIx_nat _ _ 4
    omega
  refine ST.for_ (is := [4]) (ds := cutD (ns.map .int) none (some 4) ++ [PyData.int (cellC ns k)]) (IV.lst (oCat (EV.slScr (nm 0) PartV.none (PartV.some EV.int)) (EVF.lst (ds := [PyData.int (cellC ns k)]) (AV.cons (nm 2) AV.nil)).ev (by simp only [List.length_singleton]; exact sz (by omega)))) (fun i ρ ν => (∃ a, ρ = [some (.scr ns), some (Ii (k : Int)), some (Ii (cellC ns k)), some (Ii (((cutD (ns.map .int) none (some 4) ++ [PyData.int (cellC ns k)]).take i).foldl mixC (50021 + 8017 * (k : Int)))), a]) ∧ ν = μ) ⟨⟨none, rfl⟩, rfl⟩ (fun i d ρ ν hd hI => ?_) (fun ρ ν hI => ?_)
  · obtain ⟨⟨a, rfl⟩, rfl⟩ := hI
    obtain ⟨x, rfl⟩ := hcs d (List.mem_iff_getElem?.mpr ⟨i, hd⟩)
    refine ⟨_, GV.name (i := 4) scCup.nd rfl (Or.inl rfl) (by simp), ?_⟩
    refine ST.set (i := 3) (oMod (bIntI T (oAdd (oMul (nm 3) EV.int (.inr (by decide))) (nm 4))) EV.int (by decide)) scCup.nd rfl (Or.inl rfl) (ST.nil ⟨⟨some (Ii x), ?_⟩, rfl⟩)
    rw [List.take_succ, hd]
    simp only [Option.toList, List.foldl_append, List.foldl_cons, List.foldl_nil]
    rfl
  · obtain ⟨⟨a, rfl⟩, rfl⟩ := hI
    rw [List.take_length, ← hgm]
    refine ST.nil ⟨rfl, EVF.lst (ds := (cupOf ns k).ds) (AV.cons (x := Ii (cupOf ns k).g) (EV.ifx (k := decide (cellC ns k < 0) || decide ((10 : Int) ^ (18 : Int).toNat ≤ cellC ns k)) (WV.tv (WV.orP (tLt (nm 2) EV.int) (WV.or1 (tGe (nm 2) (oPow EV.int EV.int ⟨by decide, by decide, by decide⟩))))) (fun hk => EV.eq (bAbs T (nm 2)) ?_) (fun hk => EV.eq EV.int ?_)) (AV.cons (nm 3) (AV.cons EV.int AV.nil)))⟩
    · rw [Bool.or_eq_true, decide_eq_true_eq, decide_eq_true_eq] at hk
      have e : (cupOf ns k).g = absI (cellC ns k) := if_pos hk
      rw [e]
      rfl
    · have hk' : ¬ (cellC ns k < 0 ∨ 1000000000000000000 ≤ cellC ns k) := fun z => by
        rw [Bool.or_eq_false_iff, decide_eq_false_iff_not, decide_eq_false_iff_not] at hk
        exact z.elim hk.1 hk.2
      have e : (cupOf ns k).g = 0 := if_neg hk'
      rw [e]
end
end J
/-! KC2: the sketch of a book: labels, clauses, rounds. -/
namespace G
open PySem J
variable [KC]
def Part.items (x : Part) : List PyData := [.str x.word, .int x.over, .int x.by_, .str x.side, .int x.far, .str x.tag]
end G
namespace GC
open PySem J
variable [KC]
def menu9 : List Str := ["join", "left", "on", "of", "a1", "a2", "plan", "call", "z9z9z9z9"]
def far4 : List Int := [1, 2, 4, 5]
def labels (span : Nat) (p : Cu) : List Str × Cu := ((List.range span).map fun (k : Nat) => G.nth Str.empty menu9 (((sip 9 p).1 + G.nth 0 far4 (sip 4 (sip 9 p).2).1 * (k : Int)) % 9), (sip 4 (sip 9 p).2).2)
def sides3 : List Str := ["left", "left", "right"]
def words5 : List Str := ["join", "join", "join", "take", "clear"]
def fars6 : List Int := [1, 1, 2, 2, 3, 4]
def clause (ls : List Str) (at_ rest step : Int) (calls : Bool) (p : Cu) : G.Part × Cu :=
  let w := sip 5 p
  let s := sip 3 w.2
  if calls = true then (if 1 < step then (⟨"call", rest, step, "", 0, G.nth Str.empty ls (sip ls.length s.2).1⟩, (sip ls.length s.2).2) else (⟨"call", rest, step, "", 0, G.nth Str.empty ls (at_ + 1)⟩, s.2))
  else (⟨G.nth Str.empty words5 w.1, rest, step, G.nth Str.empty sides3 s.1, G.nth 0 fars6 (sip 6 s.2).1, ""⟩, (sip 6 s.2).2)
def steps6 : List Int := [1, 1, 2, 2, 2, 3]
def step0 (p : Cu) : Int := G.nth 0 steps6 (sip 6 (sip 4 p).2).1
def stepR (ls : List Str) (at_ : Int) (p : Cu) : Int := if (sip 4 p).1 = 0 ∧ step0 p = 1 ∧ (ls.length : Int) ≤ at_ + 1 then 2 else step0 p
def cu2 (p : Cu) : Cu := (sip 6 (sip 4 p).2).2
def rest0 (p : Cu) : Int := (sip (step0 p) (cu2 p)).1
def cu4 (p : Cu) : Cu := (sip 3 (sip (step0 p) (cu2 p)).2).2
def many0 (p : Cu) : Int := 1 + (sip 3 (sip (step0 p) (cu2 p)).2).1
def manyR (ls : List Str) (at_ : Int) (p : Cu) : Int := if stepR ls at_ p < many0 p then stepR ls at_ p else many0 p
def round (ls : List Str) (at_ : Int) (p : Cu) : List G.Part × Cu := run (fun (k : Nat) => clause ls at_ ((rest0 p + (k : Int)) % stepR ls at_ p) (stepR ls at_ p) (decide ((sip 4 p).1 = 0))) (List.range (manyR ls at_ p).toNat) (cu4 p)
theorem nthR {l : List Int} {i a b : Int} (h : ∀ x ∈ l, a ≤ x ∧ x ≤ b) (h0 : 0 ≤ i) (h1 : i < l.length) : a ≤ G.nth 0 l i ∧ G.nth 0 l i ≤ b := h _ (G.nth_mem h0 h1)
theorem step0_r {p : Cu} (h : p.ok) : 1 ≤ step0 p ∧ step0 p ≤ 3 := by
  obtain ⟨_, _, h1⟩ := sip_ok (t := 4) h (by decide)
  obtain ⟨a, b, h2⟩ := sip_ok (t := 6) h1 (by decide)
  exact nthR (by decide) a b
theorem stepR_r {ls : List Str} {at_ : Int} {p : Cu} (h : p.ok) : 1 ≤ stepR ls at_ p ∧ stepR ls at_ p ≤ 3 := by
  unfold stepR
  split
  · exact ⟨by decide, by decide⟩
  · exact step0_r h
theorem cu2_ok {p : Cu} (h : p.ok) : (cu2 p).ok := (sip_ok (t := 6) (sip_ok (t := 4) h (by decide)).2.2 (by decide)).2.2
theorem cu4_ok {p : Cu} (h : p.ok) : (cu4 p).ok ∧ 0 ≤ rest0 p ∧ rest0 p < step0 p ∧ 1 ≤ many0 p ∧ many0 p ≤ 3 := by
  obtain ⟨a, b, h1⟩ := sip_ok (t := step0 p) (cu2_ok h) (by have := step0_r h; omega)
  obtain ⟨c, d, h2⟩ := sip_ok (t := 3) h1 (by decide)
  refine ⟨h2, a, b, ?_, ?_⟩ <;> unfold many0 <;> omega
theorem manyR_r {ls : List Str} {at_ : Int} {p : Cu} (h : p.ok) : 1 ≤ manyR ls at_ p ∧ manyR ls at_ p ≤ 3 ∧ manyR ls at_ p ≤ stepR ls at_ p := by
  have a := stepR_r (ls := ls) (at_ := at_) h
  obtain ⟨_, _, _, b, c⟩ := cu4_ok h
  unfold manyR
  split <;> omega
theorem clause_ok {ls : List Str} {at_ rest step : Int} {calls : Bool} {p : Cu} (h : p.ok) (hl : ls ≠ []) : (clause ls at_ rest step calls p).2.ok := by
  obtain ⟨_, _, h1⟩ := sip_ok (t := 5) h (by decide)
  obtain ⟨_, _, h2⟩ := sip_ok (t := 3) h1 (by decide)
  unfold clause
  dsimp only
  split
  · split
    · exact (sip_ok (t := ls.length) h2 (by have := List.length_pos_iff.mpr hl; omega)).2.2
    · exact h2
  · exact (sip_ok (t := 6) h2 (by decide)).2.2
theorem round_ok {ls : List Str} {at_ : Int} {p : Cu} (h : p.ok) (hl : ls ≠ []) : (round ls at_ p).2.ok := (run_ok (R := fun _ _ => True) _ _ (fun _ _ q hq => ⟨trivial, clause_ok hq hl⟩) (cu4_ok h).1).2
end GC
namespace J
open PySem PySem.Spec
open PyProof.Rows L2
variable [KC]
theorem at_nth {l : List PyData} {i : Int} (h0 : 0 ≤ i) (h1 : i < l.length) : atI l i = some (G.nth .none l i) := by
  have := at_nat (G.nth_some (d := PyData.none) h0 h1)
  rwa [show ((i.toNat : Nat) : Int) = i by omega] at this
theorem at_nthS {l : List Str} {i : Int} (h0 : 0 ≤ i) (h1 : i < l.length) : atI (l.map PyData.str) i = some (PyData.str (G.nth Str.empty l i)) := by
  rw [at_nth h0 (by rw [List.length_map]; exact h1), nth_map (d := Str.empty) PyData.str h0 h1]
theorem at_nthI {l : List Int} {i : Int} (h0 : 0 ≤ i) (h1 : i < l.length) : atI (l.map PyData.int) i = some (PyData.int (G.nth 0 l i)) := by
  rw [at_nth h0 (by rw [List.length_map]; exact h1), nth_map (d := 0) PyData.int h0 h1]
theorem ssetC {μ : Sto} {k : Nat} {a b : List PyData} : (μ.set k a).set k b = μ.set k b := List.set_set ..
section
variable {X : Cx} {W : WX} {ρ : REnv} {μ μ1 : Sto} {P : Out → Prop} {rest : List Stmt} {pos : Pos} {n : Nat}
theorem ST.par3 {i j l : Nat} {x y z : Str} {a b c : Expr} {px py pz pt : Pos} {kt k2 pt2} {r1 r2 r3 : Ent} (ha : AV X [a, b, c] ρ μ [r1, r2, r3] μ1) (hN : X.N.Nodup) (hi : X.N[i]? = some x) (hj : X.N[j]? = some y) (hl : X.N[l]? = some z) (hij : i ≠ j) (hil : i ≠ l) (hjl : j ≠ l)
    (hx : X.env.scope.names.lookup x = some .local) (hy : X.env.scope.names.lookup y = some .local) (hz : X.env.scope.names.lookup z = some .local) (hr : ST X W n rest (((ρ.set i (some r1)).set j (some r2)).set l (some r3)) μ1 P)
    (hw : swappedStores [.Tuple [.Name x px, .Name y py, .Name z pz] kt pt] (.Tuple [a, b, c] k2 pt2) X.env = pure (some [x, y, z])) (hc : X.calm = true := by rfl)
    (hs : swapsWithSole [.Tuple [.Name x px, .Name y py, .Name z pz] kt pt] (.Tuple [a, b, c] k2 pt2) pos.line X.env = pure false := by rfl) : ST X W n (.Assign [.Tuple [.Name x px, .Name y py, .Name z pz] kt pt] (.Tuple [a, b, c] k2 pt2) pos :: rest) ρ μ P := by
  intro w σ H D hn m s q
  refine ⟨_, pss_cons (ps_par3 hc hN hi hj hl hij hil hjl hx hy hz (p_ax (e := [a, b, c])) hw hs) p_sx, ?_⟩
  refine ha w σ H m s _ fun vs H1 m1 f1 hv => ?_
  obtain ⟨v1, us, rfl, h1, h2⟩ := hv.inv
  obtain ⟨v2, us, rfl, h3, h4⟩ := h2.inv
  obtain ⟨v3, us, rfl, h5, h6⟩ := h4.inv
  obtain rfl := h6.inv0
  exact ⟨v1, v2, v3, rfl, hr w _ H1 D hn m1 ((((s.fr f1).set h1).set h3).set h5) fun o ho => (q o ho).step hn f1⟩
end
section
variable {w : World} {P : Program} {K : PySem.W.Frag} {base : Heap} {mg : Str → Option Value}
/-! ### labels -/
abbrev nLab : List Str := ["_law_cup_here", "_law_span", "_law_begin", "_law_far", "_law_menu", "_law_k"]
theorem scLab : FnScope nLab ["_law_cup_here", "_law_span"] (defScope sLLabels) := ⟨rfl, rfl, rfl, by decide +kernel, rfl, by decide +kernel, by decide +kernel⟩
def cnLab : Con := fun rs μ r μ' => ∃ (k : Nat) (p : GC.Cu) (n : Nat), rs = [.ptr k, Ii (n : Int)] ∧ (μ[k]? = some p.ds ∧ p.ok ∧ n ≤ 100) ∧ r = Ls ((GC.labels n p).1.map .str) ∧ μ' = μ.set k (GC.labels n p).2.ds
theorem cLab (T : Bt mg) (C1 : CSip P w K mg base) (D : Df K mg "_law_labels" sLLabels) : Cal P w K mg base "_law_labels" 2 ["_law_cup_here", "_law_span"] cnLab := by
  refine D.cal scLab (fun _ _ _ _ _ _ us hl => match us, hl with | [_, _], _ => rfl) (by decide) (fun rs μ r μ' h => by obtain ⟨_, _, _, _, _, _, rfl⟩ := h; simp) fun f cdv A outer s H E hr rs μ r μ' hC => ?_
  obtain ⟨k, p, n, rfl, ⟨hk, hp, hn⟩, rfl, rfl⟩ := hC
  obtain ⟨a0, a1, hp1⟩ := GC.sip_ok (t := 9) hp (by decide)
  obtain ⟨b0, b1, hp2⟩ := GC.sip_ok (t := 4) hp1 (by decide)
  have hfar := GC.nthR (l := GC.far4) (a := 1) (b := 5) (by decide) b0 b1
  refine ST.asg (is := [2, 3]) (d := .tuple [.int (GC.sip 9 p).1, .int (G.nth 0 GC.far4 (GC.sip 4 (GC.sip 9 p).2).1)]) (μ1 := μ.set k (GC.sip 4 (GC.sip 9 p).2).2.ds) (EV.tup (ds := [.int (GC.sip 9 p).1, .int (G.nth 0 GC.far4 (GC.sip 4 (GC.sip 9 p).2).1)]) (AV.cons (EV.sip C1 hr (Nat.le_refl _) (nm 0) EV.int hk hp) (AV.cons (ixL (EVF.lst (ds := GC.far4.map .int) (AV.cons EV.int (AV.cons EV.int (AV.cons EV.int (AV.cons EV.int AV.nil))))).ev (EV.st (EV.sip C1 hr (Nat.le_refl _) (nm 0) EV.int (at_set hk) hp1) ssetC) (at_nthI b0 b1)) AV.nil))) (GV.tup (GsV.cons (GV.name (i := 2) scLab.nd rfl (by first | exact Or.inl rfl | exact Or.inr rfl) (by simp)) (GsV.cons (GV.name (i := 3) scLab.nd rfl (by first | exact Or.inl rfl | exact Or.inr rfl) (by simp)) GsV.nil))) ?_
  refine ST.set (i := 4) (r := Ls (GC.menu9.map .str)) (EVF.lst (ds := GC.menu9.map .str) (AV.cons EV.str (AV.cons EV.str (AV.cons EV.str (AV.cons EV.str (AV.cons EV.str (AV.cons EV.str (AV.cons EV.str (AV.cons EV.str (AV.cons EV.str AV.nil)))))))))).ev scLab.nd rfl (by first | exact Or.inl rfl | exact Or.inr rfl) ?_
  refine ST.retP (EV.eq (LCV.evf (own := [("_law_k", 5)]) (LCV.mapT (bs := List.range n) (fun (i : Nat) => PyData.int (0 + (i : Int))) (fun (i : Nat) => .str (G.nth Str.empty GC.menu9 (((GC.sip 9 p).1 + G.nth 0 GC.far4 (GC.sip 4 (GC.sip 9 p).2).1 * (i : Int)) % 9))) (IV.eqD (IV.rng1 (nm 1) (by omega) (by omega) T.range) (by rw [Int.toNat_natCast]; rfl)) (fun i hi => ?_) (by simp; omega)) rfl scLab.nd (blkOk_by (N := nLab) (sc := defScope sLLabels) (by decide +kernel))).ev (congrArg Ls (show _ = (GC.labels n p).1.map PyData.str by unfold GC.labels; rw [List.map_map]; rfl))) rfl take_set
  refine ⟨_, fun _ _ _ _ _ => GV.name (i := 5) scLab.nd rfl (Or.inl rfl) (by simp), fun _ _ _ _ _ => ?_⟩
  refine ixL (nm 4) (EV.eq (oMod (bIntI T (oAdd (nm 2) (oMul (nm 3) (nm 5) (.inl (by omega))))) EV.int (by decide)) (congrArg Ii (by rw [Int.zero_add]))) (at_nthS (Int.emod_nonneg _ (by decide)) (Int.emod_lt_of_pos _ (by decide)))
/-! ### clauses -/
abbrev nCla : List Str := ["_law_cup_here", "_law_labels_here", "_law_at", "_law_rest", "_law_step", "_law_calls", "_law_word", "_law_side"]
theorem scCla : FnScope nCla ["_law_cup_here", "_law_labels_here", "_law_at", "_law_rest", "_law_step", "_law_calls"] (defScope sLClause) := ⟨rfl, rfl, rfl, by decide +kernel, rfl, by decide +kernel, by decide +kernel⟩
def cnCla : Con := fun rs μ r μ' => ∃ (k : Nat) (p : GC.Cu) (ls : List Str) (at_ rest step : Int) (calls : Bool), rs = [.ptr k, Ls (ls.map .str), Ii at_, Ii rest, Ii step, Bb calls] ∧ (μ[k]? = some p.ds ∧ p.ok ∧ ls ≠ [] ∧ ls.length ≤ 100 ∧ 0 ≤ at_ ∧ (calls = true → ¬ 1 < step → at_ + 1 < ls.length)) ∧ r = .dat (GC.clause ls at_ rest step calls p).1.d ∧ μ' = μ.set k (GC.clause ls at_ rest step calls p).2.ds
abbrev CCla (P : Program) (w : World) (K : PySem.W.Frag) (mg : Str → Option Value) (base : Heap) : Prop := Cal P w K mg base "_law_clause" 2 ["_law_cup_here", "_law_labels_here", "_law_at", "_law_rest", "_law_step", "_law_calls"] cnCla
theorem cCla (T : Bt mg) (C1 : CSip P w K mg base) (D : Df K mg "_law_clause" sLClause) : CCla P w K mg base := by
  refine D.cal scCla (fun _ _ _ _ _ _ us hl => match us, hl with | [_, _, _, _, _, _], _ => rfl) (by decide) (fun rs μ r μ' h => by obtain ⟨_, _, _, _, _, _, _, _, _, _, rfl⟩ := h; simp) fun f cdv A outer s H E hr rs μ r μ' hC => ?_
  obtain ⟨k, p, ls, at_, rest, step, calls, rfl, ⟨hk, hp, hne, hll, h0, hcs⟩, rfl, rfl⟩ := hC
  have hpos : 0 < ls.length := List.length_pos_iff.mpr hne
  obtain ⟨a0, a1, hp1⟩ := GC.sip_ok (t := 5) hp (by decide)
  obtain ⟨b0, b1, hp2⟩ := GC.sip_ok (t := 3) hp1 (by decide)
  refine ST.par (i := 6) (j := 7) (r1 := Ii (GC.sip 5 p).1) (r2 := Ss (G.nth Str.empty GC.sides3 (GC.sip 3 (GC.sip 5 p).2).1)) (μ1 := μ.set k (GC.sip 3 (GC.sip 5 p).2).2.ds) (AV.cons (EV.sip C1 hr (Nat.le_refl _) (nm 0) EV.int hk hp) (AV.cons (ixL (EVF.lst (ds := GC.sides3.map .str) (AV.cons EV.str (AV.cons EV.str (AV.cons EV.str AV.nil)))).ev (EV.st (EV.sip C1 hr (Nat.le_refl _) (nm 0) EV.int (at_set hk) hp1) ssetC) (at_nthS b0 b1)) AV.nil)) scCla.nd rfl rfl (by decide) rfl rfl ?_ rfl
  have hk2 := at_set (es := (GC.sip 3 (GC.sip 5 p).2).2.ds) hk
  unfold GC.clause
  dsimp only
  generalize (GC.sip 5 p).1 = wd at *
  generalize (GC.sip 3 (GC.sip 5 p).2).1 = sd at *
  generalize (GC.sip 3 (GC.sip 5 p).2).2 = q at *
  refine ST.ifR (TV.val (nm 5)) (fun hb => ?_) (fun hb => ?_)
  · subst hb
    rw [if_pos rfl]
    by_cases hs : 1 < step
    · obtain ⟨c0, c1, hp3⟩ := GC.sip_ok (t := ls.length) hp2 (by omega)
      rw [if_pos hs]
      exact ST.retP (EV.tup (ds := (G.Part.mk "call" rest step "" 0 (G.nth Str.empty ls (GC.sip ls.length q).1)).items) (AV.cons EV.str (AV.cons (nm 3) (AV.cons (nm 4) (AV.cons EV.str (AV.cons EV.int (AV.cons (ixL (nm 1) (EV.ifx (k := decide (1 < step)) (tGt (nm 4) EV.int) (fun _ => EV.st (EV.sip C1 hr (Nat.le_refl _) (nm 0) (EV.eq (bLenL T (nm 1)) (by rw [List.length_map])) hk2 hp2 (by omega) (by omega)) ssetC) (fun z => absurd hs (of_decide_eq_false z))) (at_nthS c0 c1)) AV.nil))))))) rfl take_set
    · rw [if_neg hs]
      exact ST.retP (EV.tup (ds := (G.Part.mk "call" rest step "" 0 (G.nth Str.empty ls (at_ + 1))).items) (AV.cons EV.str (AV.cons (nm 3) (AV.cons (nm 4) (AV.cons EV.str (AV.cons EV.int (AV.cons (ixL (nm 1) (EV.ifx (k := decide (1 < step)) (tGt (nm 4) EV.int) (fun z => absurd (of_decide_eq_true z) hs) (fun _ => oAdd (nm 2) EV.int)) (at_nthS (by omega) (hcs rfl hs))) AV.nil))))))) rfl take_set
  · subst hb
    rw [if_neg (by decide)]
    obtain ⟨c0, c1, hp3⟩ := GC.sip_ok (t := 6) hp2 (by decide)
    refine ST.set (i := 6) (r := Ss (G.nth Str.empty GC.words5 wd)) (ixL (EVF.lst (ds := GC.words5.map .str) (AV.cons EV.str (AV.cons EV.str (AV.cons EV.str (AV.cons EV.str (AV.cons EV.str AV.nil)))))).ev (nm 6) (at_nthS a0 a1)) scCla.nd rfl (Or.inl rfl) ?_
    exact ST.retP (EV.tup (ds := (G.Part.mk (G.nth Str.empty GC.words5 wd) rest step (G.nth Str.empty GC.sides3 sd) (G.nth 0 GC.fars6 (GC.sip 6 q).1) "").items) (AV.cons (nm 6) (AV.cons (nm 3) (AV.cons (nm 4) (AV.cons (nm 7) (AV.cons (ixL (EVF.lst (ds := GC.fars6.map .int) (AV.cons EV.int (AV.cons EV.int (AV.cons EV.int (AV.cons EV.int (AV.cons EV.int (AV.cons EV.int AV.nil))))))).ev (EV.st (EV.sip C1 hr (Nat.le_refl _) (nm 0) EV.int hk2 hp2) ssetC) (at_nthI c0 c1)) (AV.cons EV.str AV.nil))))))) rfl take_set
end
end J
/-! J48: texts repeated; class methods that may raise, called by a keyword. -/
namespace J
open PySem PySem.Spec
open PyProof.Rows L2
variable [KC]
section
variable {X : Cx} {W : WX} {ρ : REnv} {μ μ1 μ2 μ3 : Sto} {a b e o : Expr} {pos p apos kpos : Pos} {n m s : Str} {C : Addr} {k : Nat} {cn : ConX} {r : Ent} {oo : Res} {mc : Value} {pm g : Addr} {fd : FuncData} {sp : Sp} {i : Int}
theorem op_mulS : OpR X (binaryOp .Mult) (fun x y H Q => ∃ i j, x = .str i ∧ y = .int j ∧ MulOk i j ∧ Q (.str (Txt.mul i j)) H) := by
  intro pins s σ H x y v u Q I rx ry h
  obtain ⟨i, j, rfl, rfl, hz, q⟩ := h
  obtain ⟨t, rfl⟩ := rx
  obtain ⟨t', rfl⟩ := ry
  exact SB.mul hz fun t' tk => ⟨.str (Txt.mul i j), H, I.tok _, ⟨_, rfl⟩, q⟩
theorem r2_mulS {K : PySem.W.Frag} {μ : Sto} (h : MulOk s i) : R2V K (fun x y H Q => ∃ i j, x = V.str i ∧ y = V.int j ∧ MulOk i j ∧ Q (.str (Txt.mul i j)) H) (Ss s) (Ii i) (Ss (Txt.mul s i)) μ := r2v_pure fun w H v u m a b => by
  cases a
  cases b
  exact ⟨_, Dq.str _, fun Q q => ⟨s, i, rfl, rfl, h, q⟩⟩
theorem oMulS (ha : EV X a ρ μ (Ss s) μ1) (hb : EV X b ρ μ1 (Ii i) μ2) (h : MulOk s i) : EV X (.BinOp a .Mult b pos) ρ μ (Ss (Txt.mul s i)) μ2 := ha.op op_mulS hb (r2_mulS h)
end
/-- a class method that may raise, also by keyword -/
structure CMthK (P : Program) (w : World) (K : PySem.W.Frag) (mg : Str → Option Value) (base : Heap) (C : Addr) (m : Str) (k : Nat) (c : ConX) : Prop where
  ex : ∃ mc p g fd, ClX.CRead K C mc ∧ ClX.CMet K C mc m p g ∧ FnOk P w K mg base (L2.CX P w) k g fd ["cls", "text"] (SpX K ["cls", "text"] c) ∧ Binds K fd ["cls", "text"] [] ∧ KBn K fd ["cls", "text"] 1 ["text"] (fun us ws => us ++ ws) (fun vs zs => vs ++ zs)
section
variable {X : Cx} {W : WX} {ρ : REnv} {μ μ1 μ2 μ3 : Sto} {e o : Expr} {pos p apos kpos : Pos} {n m : Str} {C : Addr} {k : Nat} {cn : ConX} {r : Ent} {oo : Res} {mc : Value} {pm g : Addr} {fd : FuncData} {sp : Sp}
theorem CMthK.plain (M : CMthK X.prog X.w X.K X.mg X.base C m k cn) : CMthX X.prog X.w X.K X.mg X.base C m k cn := by
  obtain ⟨mc, p, g, fd, a, b, c, d, _⟩ := M.ex
  exact ⟨mc, p, g, fd, a, b, c, d⟩
theorem run_cmKX {Y : CXT} {E : XK} {pins : List (Addr × Obj)} {σ : L2.St} {H : Hp} {s : Shared} {q : Addr} {Q : VK} {ws : List Value} {zs : List V} {ps ks : List Str} (F : FnOk X.prog X.w X.K X.mg X.base Y k g fd ps sp) (hb : KBn X.K fd ps 1 ks (fun us ws => us ++ ws) (fun vs zs => vs ++ zs)) (hr : Room k X.A) (hx : PassesAt Y X σ E)
    (I : Inv X ((q, PySem.W.methodObj (.ref g) (.ref C)) :: pins) σ H s) (rz : Vals zs ws) (l2 : zs.length = ks.length) (h : sp (.ref C :: zs) H Q E) : wpAny (model X.prog X.w) X.A (call (.ref q) [] (ks.zip ws)) (EP X pins σ Q) X.xe s := by
  have rr : Vals (V.ref C :: zs) (Value.ref C :: ws) := .cons rfl rz
  have z0 : wpAny (model X.prog X.w) X.A (call (.ref q) [] (ks.zip ws)) (EP X ((q, PySem.W.methodObj (.ref g) (.ref C)) :: pins) σ Q) X.xe s := by
    refine wpAny_call (PySem.W.method_call (ClX.pin_at I) (codeAny_mono (F.run X.A X.stack s H ⟨[.ref C], ks.zip ws⟩ (.ref C :: ws) (.ref C :: zs) Q E hr I.env0 (hb.to s [.ref C] ws I.kIn rfl (rz.length.symm.trans l2)) rr h) fun r s' hq => ?_))
    match r, hq with
    | .error ee, hq => exact hx _ H s ee s' I hq
    | .ok (.ret u), hq => exact I.after hq
  exact thn z0 fun _ _ y => ClX.unpinE y
theorem EVR.cmethK {pl : Sem Bool} (M : CMthK X.prog X.w X.K X.mg X.base C m k cn) (tk : L2.Takes X W) (hm : X.mg n = some (.ref C)) (hr : Room k X.A) (ha : EV X e ρ μ r μ1) (hC : cn [.raw (.ref C), r] μ1 oo) (hg : Gl X n := by rfl) (hdb : (n == ("__debug__" : Str)) = false := by decide)
    (hall : (backToKw pos (keywordEach [⟨some "text", e, kpos⟩] X.env)).all (·.1.isSome) = true := by rfl) (hks : (backToKw pos (keywordEach [⟨some "text", e, kpos⟩] X.env)).filterMap (·.1) = [("text" : Str)] := by rfl)
    (hpl : ((backTo pos (starEach [] X.env)).any (·.1) || (backToKw pos (keywordEach [⟨some "text", e, kpos⟩] X.env)).any (·.1.isNone)) = false := by rfl)
    (ht : eval (.Call (.Attribute (.Name n p) m apos) [] [⟨some "text", e, kpos⟩] pos) X.env = (do
      let ov ← eval (.Name n p) X.env
      standAt apos.atName
      let (f, first) ← holding [ov] (getMethod ov m pl)
      callWith pos f first (backTo pos (starEach [] X.env)) (backToKw pos (keywordEach [⟨some "text", e, kpos⟩] X.env))) := by rfl) : EVR X W (.Call (.Attribute (.Name n p) m apos) [] [⟨some "text", e, kpos⟩] pos) ρ μ oo := by
  intro w σ H m0 s Q q
  obtain ⟨mc, pm, g, fd, rd, cm, F, _, bk⟩ := M.ex
  refine ⟨fun σ H Q => tCons (EX X e) tNil σ H fun vs H2 => vs.length = 1 ∧ (SpX X.K ["cls", "text"] cn) (.ref C :: vs) H2 Q (WE W σ), ⟨fun pins s0 σ0 H0 Q0 I h => ?_⟩, ?_⟩
  · refine PySem.W.methodCall_KW (pl := pl) (thn ((pe_glob (v := .ref C) (pos := p) hg hm rfl hdb).run pins s0 σ0 H0 (fun v G => v = .ref C ∧ G = H0) I ⟨rfl, rfl⟩) fun u s1 ⟨x, G1, I1, rx, z⟩ => ?_) ht
    obtain ⟨rfl, rfl⟩ := z
    obtain rfl : u = Value.ref C := rx
    refine ClX.getmethcm_ok I1 rd cm fun s2 I2 => ?_
    refine PySem.W.callWith_of (P := PySem.W.MethP X.K s1.heap.objs.size g (.ref C)) hpl (PySem.W.keeps_M cm.fi) (evalArgs_kw2_nil hall ?_)
    have hkw : PK X [⟨some "text", e, kpos⟩] _ := pk_cons (p_ex (e := e)) pk_nil
    refine thn (hkw.run pos _ s2 σ0 _ _ I2 h) fun ws s3 ⟨zs, H2, I3, rz, l2, q2⟩ => ⟨⟨ClX.pin_at I3, I3.kIn⟩, ?_⟩
    rw [hks]
    exact run_cmKX F bk hr (passAt tk σ0) I3 rz l2 q2
  · refine ha w σ H m0 s _ fun v H1 m1 f1 h1 => ?_
    refine ⟨rfl, w, μ1, [.raw (.ref C), r], oo, m1, .cons (r := .raw (.ref C)) rfl (.cons h1 .nil), rfl, hC, ?_⟩
    cases oo with
    | ok r μ3 => exact fun v H3 m3 f3 h3 => q v H3 m3 (f1.trans f3) h3
    | rse C fs μ3 => exact fun od H3 m3 f3 h3 => q od H3 m3 (f1.trans f3) h3
theorem ST.envK {sts : List Stmt} {nn : Nat} {ρ' : REnv} {Q : Out → Prop} (e : ρ = ρ') (h : ST X W nn sts ρ' μ Q) : ST X W nn sts ρ μ Q := e ▸ h
/-- f(a new list), a text -/
theorem EV.callNewS {C : Con} {t n : Str} {k : Nat} {x1 : Str} {xs ys : List PyData} (F : Cal X.prog X.w X.K X.mg X.base n k [x1] C) (hr : Room k X.A) (ha : EVF X e ρ μ xs μ1) (hC : C [.ptr μ1.length] (μ1 ++ [xs]) (Ss t) (μ1 ++ [ys]))
    (hg : Gl X n := by rfl) (hdb : (n == ("__debug__" : Str)) = false := by decide) (he : starEach [e] X.env = (false, eval e X.env) :: starEach [] X.env := by rfl) (hpl : (backTo pos (starEach [] X.env)).any (·.1) = false := by rfl) :
    EV X (.Call (.Name n p) [e] [] pos) ρ μ (Ss t) μ1 := by
  intro w σ H m s Q q
  obtain ⟨f, fd, G, hm, hk, hb⟩ := F.ex
  refine ⟨_, pe_call (E := E0) G hr hg hm hk hb .nil pass0 (pa_cons (p_ex (e := e)) pa_nil he) hdb he hpl, ?_⟩
  refine ha w σ H m s _ fun p0 H1 us m1 f1 hp e1 hd => ?_
  have hx : p0 ∉ w.ξ := fun z => m.freshN hp (List.mem_append_right _ z)
  have hl1 : w.α.length = μ1.length := m1.len
  have hw : (w.add [p0]).cut w.α.length = w := by
    rw [take_add (Nat.le_refl _)]
    show (⟨w.α.take w.α.length, w.ξ⟩ : Wd) = w
    rw [List.take_length]
  refine ⟨w.add [p0], μ1 ++ [xs], [.ptr μ1.length], Ss t, μ1 ++ [ys], m1.adopt hx e1 hd, .cons ⟨p0, ?_, rfl⟩ .nil, rfl, hC, fun v H2 m2 f2 h2 => ?_⟩
  · rw [List.getElem?_append_right (by omega), hl1]
    simp
  · have mm := m2.cut w.α.length
    rw [hw, hl1, List.take_left] at mm
    cases h2
    refine q _ H2 mm (fun c o hc hn nt => f2 c o (f1 c o hc hn nt) (fun z => ?_) nt) (Dq.str t)
    rcases List.mem_append.mp z with z | z
    · exact hn z
    · have : c = p0 := by simpa using z
      exact hp o (this ▸ hc) nt
end
end J
/-! KC3: the sketch of a book: rounds, goals, plans. -/
namespace GC
open PySem J
variable [KC]
def goals4 : List Str := ["all", "all", "before", "last"]
def goal (p : Cu) : (Str × Int) × Cu := if (G.nth Str.empty goals4 (sip 4 p).1 == ("last" : Str)) = true then ((G.nth Str.empty goals4 (sip 4 p).1, 1 + (sip 4 (sip 4 p).2).1), (sip 4 (sip 4 p).2).2) else ((G.nth Str.empty goals4 (sip 4 p).1, 0), (sip 4 p).2)
theorem goal_ok {p : Cu} (h : p.ok) : (goal p).2.ok := by
  have h1 := (sip_ok (t := 4) h (by decide)).2.2
  unfold goal
  split
  · exact (sip_ok (t := 4) h1 (by decide)).2.2
  · exact h1
/-- a plan of a sketch -/
def pd (x : G.Mate) : PyData := .list [.str x.tag, .tuple [.str x.goal.1, .int x.goal.2], .int x.base, .list (x.rounds.map fun r => .list (r.map G.Part.d))]
def plan (ls : List Str) (at_ most : Int) (p : Cu) : G.Mate × Cu :=
  let g := goal p
  let b := sip 4 g.2
  let m := sip most b.2
  let rs := run (fun (_ : Nat) => round ls at_) (List.range (1 + m.1).toNat) m.2
  (⟨G.nth Str.empty ls at_, g.1, 1 + b.1, rs.1⟩, rs.2)
def jn (o b f : Int) : G.Part := ⟨"join", o, b, "left", f, ""⟩
def cl (o b : Int) (s : Str) : G.Part := ⟨"call", o, b, "", 0, s⟩
def goodM (s : Str) (b pk : Int) : G.Mate :=
  if pk = 0 then ⟨s, ("last", 2), b, [[jn 0 1 1]]⟩
  else if pk = 1 then ⟨s, ("last", 4), b, [[jn 0 1 1], [jn 0 1 2]]⟩
  else if pk = 2 then ⟨s, ("all", 0), b, [[jn 1 2 1], [cl 1 2 s], [jn 0 2 1]]⟩
  else ⟨s, ("all", 0), b, [[jn 1 3 1], [jn 2 3 1], [cl 2 3 s], [jn 0 3 1, jn 1 3 2]]⟩
def good (ls : List Str) (at_ : Int) (p : Cu) : G.Mate × Cu := (goodM (G.nth Str.empty ls at_) (1 + (sip 3 p).1) (sip 4 (sip 3 p).2).1, (sip 4 (sip 3 p).2).2)
def one (ls : List Str) (most : Int) (at_ : Nat) (p : Cu) : G.Mate × Cu := if (sip 2 p).1 = 0 then good ls at_ (sip 2 p).2 else plan ls at_ most (sip 2 p).2
def sketch (span : Nat) (most : Int) (p : Cu) : List G.Mate × Cu := run (one (labels span p).1 most) (List.range span) (labels span p).2
theorem labels_ok {n : Nat} {p : Cu} (h : p.ok) : (labels n p).2.ok ∧ (labels n p).1.length = n := ⟨(sip_ok (t := 4) (sip_ok (t := 9) h (by decide)).2.2 (by decide)).2.2, by unfold labels; simp⟩
theorem plan_ok {ls : List Str} {at_ most : Int} {p : Cu} (h : p.ok) (hl : ls ≠ []) (hm : 0 < most) : (plan ls at_ most p).2.ok := by
  have h1 := goal_ok h
  obtain ⟨_, _, h2⟩ := sip_ok (t := 4) h1 (by decide)
  obtain ⟨_, _, h3⟩ := sip_ok (t := most) h2 hm
  exact (run_ok (R := fun _ _ => True) _ _ (fun _ _ q hq => ⟨trivial, round_ok hq hl⟩) h3).2
theorem one_ok {ls : List Str} {most : Int} {at_ : Nat} {p : Cu} (h : p.ok) (hl : ls ≠ []) (hm : 0 < most) : (one ls most at_ p).2.ok := by
  obtain ⟨_, _, h1⟩ := sip_ok (t := 2) h (by decide)
  unfold one
  split
  · exact (sip_ok (t := 4) (sip_ok (t := 3) h1 (by decide)).2.2 (by decide)).2.2
  · exact plan_ok h1 hl hm
end GC
namespace J
open PySem PySem.Spec
open PyProof.Rows L2
variable [KC]
section
variable {w : World} {P : Program} {K : PySem.W.Frag} {base : Heap} {mg : Str → Option Value}
/-! ### rounds -/
abbrev nRnd : List Str := ["_law_cup_here", "_law_labels_here", "_law_at", "_law_calls", "_law_step", "_law_rest", "_law_many", "_law_k"]
theorem scRnd : FnScope nRnd ["_law_cup_here", "_law_labels_here", "_law_at"] (defScope sLRound) := ⟨rfl, rfl, rfl, by decide +kernel, rfl, by decide +kernel, by decide +kernel⟩
def cnRnd : Con := fun rs μ r μ' => ∃ (k : Nat) (p : GC.Cu) (ls : List Str) (at_ : Int), rs = [.ptr k, Ls (ls.map .str), Ii at_] ∧ (μ[k]? = some p.ds ∧ p.ok ∧ ls ≠ [] ∧ ls.length ≤ 100 ∧ 0 ≤ at_) ∧ r = Ls ((GC.round ls at_ p).1.map G.Part.d) ∧ μ' = μ.set k (GC.round ls at_ p).2.ds
abbrev CRnd (P : Program) (w : World) (K : PySem.W.Frag) (mg : Str → Option Value) (base : Heap) : Prop := Cal P w K mg base "_law_round" 3 ["_law_cup_here", "_law_labels_here", "_law_at"] cnRnd
theorem cRnd (T : Bt mg) (C1 : CSip P w K mg base) (C2 : CCla P w K mg base) (D : Df K mg "_law_round" sLRound) : CRnd P w K mg base := by
  refine D.cal scRnd (fun _ _ _ _ _ _ us hl => match us, hl with | [_, _, _], _ => rfl) (by decide) (fun rs μ r μ' h => by obtain ⟨_, _, _, _, _, _, _, rfl⟩ := h; simp) fun f cdv A outer s H E hr rs μ r μ' hC => ?_
  obtain ⟨k, p, ls, at_, rfl, ⟨hk, hp, hne, hll, h0⟩, rfl, rfl⟩ := hC
  obtain ⟨a0, a1, hp1⟩ := GC.sip_ok (t := 4) hp (by decide)
  obtain ⟨b0, b1, hp2⟩ := GC.sip_ok (t := 6) hp1 (by decide)
  have hst := GC.step0_r hp
  have hsr := GC.stepR_r (ls := ls) (at_ := at_) hp
  obtain ⟨c0, c1, hp3⟩ := GC.sip_ok (t := GC.step0 p) hp2 (by omega)
  obtain ⟨d0, d1, hp4⟩ := GC.sip_ok (t := 3) hp3 (by decide)
  have hm := GC.manyR_r (ls := ls) (at_ := at_) hp
  obtain ⟨hq4, r0, r1, m1, m3⟩ := GC.cu4_ok hp
  refine ST.asg (is := [3, 4]) (d := .tuple [.bool (decide ((GC.sip 4 p).1 = 0)), .int (GC.step0 p)]) (μ1 := μ.set k (GC.cu2 p).ds) (EV.tup (ds := [.bool (decide ((GC.sip 4 p).1 = 0)), .int (GC.step0 p)]) (AV.cons (EV.eq (cEq (EV.sip C1 hr (by decide) (nm 0) EV.int hk hp) EV.int) rfl) (AV.cons (ixL (EVF.lst (ds := GC.steps6.map .int) (AV.cons EV.int (AV.cons EV.int (AV.cons EV.int (AV.cons EV.int (AV.cons EV.int (AV.cons EV.int AV.nil))))))).ev (EV.st (EV.sip C1 hr (by decide) (nm 0) EV.int (at_set hk) hp1) ssetC) (at_nthI b0 b1)) AV.nil))) (GV.tup (GsV.cons (GV.name (i := 3) scRnd.nd rfl (by first | exact Or.inl rfl | exact Or.inr rfl) (by simp)) (GsV.cons (GV.name (i := 4) scRnd.nd rfl (by first | exact Or.inl rfl | exact Or.inr rfl) (by simp)) GsV.nil))) ?_
  refine ST.asg (is := [5, 6]) (d := .tuple [.int (GC.rest0 p), .int (GC.many0 p)]) (μ1 := μ.set k (GC.cu4 p).ds) (EV.tup (ds := [.int (GC.rest0 p), .int (GC.many0 p)]) (AV.cons (EV.st (EV.sip (p := GC.cu2 p) C1 hr (by decide) (nm 0) (nm 4) (at_set hk) (GC.cu2_ok hp) (by omega) (by omega)) ssetC) (AV.cons (oAdd EV.int (EV.st (EV.sip C1 hr (by decide) (nm 0) EV.int (at_set hk) hp3) ssetC)) AV.nil))) (GV.tup (GsV.cons (GV.name (i := 5) scRnd.nd rfl (by first | exact Or.inl rfl | exact Or.inr rfl) (by simp)) (GsV.cons (GV.name (i := 6) scRnd.nd rfl (by first | exact Or.inl rfl | exact Or.inr rfl) (by simp)) GsV.nil))) ?_
  refine ST.envK (ρ' := [some (.ptr k), some (Ls (ls.map .str)), some (Ii at_), some (Bb (decide ((GC.sip 4 p).1 = 0))), some (Ii (GC.step0 p)), some (Ii (GC.rest0 p)), some (Ii (GC.many0 p)), none]) rfl ?_
  have hcs : decide ((GC.sip 4 p).1 = 0) = true → ¬ 1 < GC.stepR ls at_ p → at_ + 1 < ls.length := fun z1 z2 => by
    have z3 := of_decide_eq_true z1
    unfold GC.stepR at z2
    split at z2
    · exact absurd (by decide) z2
    · rename_i h
      have : GC.step0 p = 1 := by omega
      omega
  refine ST.iff (k := decide ((GC.sip 4 p).1 = 0) && (decide (GC.step0 p = 1) && decide ((ls.length : Int) ≤ at_ + 1))) (WV.tv (WV.andP (TV.val (nm 3)) (WV.andP (TV.eq (tEq (d := .int (GC.step0 p)) (d2 := .int 1) (nm 4) EV.int) rfl) (WV.and1 (TV.eq (tGe (oAdd (nm 2) EV.int) (bLenL T (nm 1))) (by rw [List.length_map])))))) (fun hb => ST.set (i := 4) (r := Ii 2) EV.int scRnd.nd rfl (by first | exact Or.inl rfl | exact Or.inr rfl) (ST.nil (ST.envK (ρ' := [some (.ptr k), some (Ls (ls.map .str)), some (Ii at_), some (Bb (decide ((GC.sip 4 p).1 = 0))), some (Ii (GC.stepR ls at_ p)), some (Ii (GC.rest0 p)), some (Ii (GC.many0 p)), none]) ?_ ?_))) (fun hb => ST.nil (ST.envK (ρ' := [some (.ptr k), some (Ls (ls.map .str)), some (Ii at_), some (Bb (decide ((GC.sip 4 p).1 = 0))), some (Ii (GC.stepR ls at_ p)), some (Ii (GC.rest0 p)), some (Ii (GC.many0 p)), none]) ?_ ?_))
  case refine_1 =>
    rw [Bool.and_eq_true, Bool.and_eq_true, decide_eq_true_eq, decide_eq_true_eq, decide_eq_true_eq] at hb
    have e : GC.stepR ls at_ p = 2 := if_pos ⟨hb.1, hb.2.1, hb.2.2⟩
    rw [e]
    rfl
  case refine_3 =>
    have e : GC.stepR ls at_ p = GC.step0 p := if_neg fun z => by
      rw [decide_eq_true z.1, decide_eq_true z.2.1, decide_eq_true z.2.2] at hb
      cases hb
    rw [e]
  all_goals
    refine ST.set (i := 6) (r := Ii (GC.manyR ls at_ p)) (EV.callB (call_min2 rfl) T.min (by decide +kernel) (AV.cons (nm 6) (AV.cons (nm 4) AV.nil)) cv_min) scRnd.nd rfl (by first | exact Or.inl rfl | exact Or.inr rfl) ?_
    refine ST.retP (LCV.evf (own := [("_law_k", 7)]) (LCV.runC (k := k) (p := GC.cu4 p) (μ1 := μ.set k (GC.cu4 p).ds) (bs := List.range (GC.manyR ls at_ p).toNat) (fun (i : Nat) => PyData.int (0 + (i : Int))) G.Part.d (fun (i : Nat) => GC.clause ls at_ ((GC.rest0 p + (i : Int)) % GC.stepR ls at_ p) (GC.stepR ls at_ p) (decide ((GC.sip 4 p).1 = 0))) (IV.eqD (IV.rng1 (nm 6) (by omega) (by omega) T.range) rfl) ssetC.symm hq4 (fun b hb q hq => GC.clause_ok hq hne) (fun b hb q hq => ⟨_, fun _ _ _ _ _ => GV.name (i := 7) scRnd.nd rfl (Or.inl rfl) (by simp), fun _ _ _ _ _ => EV.st (EV.call C2 hr (AV.cons (nm 0) (AV.cons (nm 1) (AV.cons (nm 2) (AV.cons (oMod (bIntI T (oAdd (nm 5) (EV.eq (nm 7) (congrArg Ii (Int.zero_add _))))) (nm 4) (by omega)) (AV.cons (nm 4) (AV.cons (nm 3) AV.nil)))))) ⟨k, q, ls, at_, _, _, _, rfl, ⟨by rw [ssetC]; exact at_set hk, hq, hne, hll, h0, hcs⟩, rfl, rfl⟩) ssetC⟩) (by simp; omega)) rfl scRnd.nd (blkOk_by (N := nRnd) (sc := defScope sLRound) (by decide +kernel))).ev rfl ?_
    rw [ssetC]
    exact take_set
/-! ### goals -/
abbrev nGoa : List Str := ["_law_cup_here", "_law_word"]
theorem scGoa : FnScope nGoa ["_law_cup_here"] (defScope sLGoal) := ⟨rfl, rfl, rfl, by decide +kernel, rfl, by decide +kernel, by decide +kernel⟩
def cnGoa : Con := fun rs μ r μ' => ∃ (k : Nat) (p : GC.Cu), rs = [.ptr k] ∧ (μ[k]? = some p.ds ∧ p.ok) ∧ r = Tp [.str (GC.goal p).1.1, .int (GC.goal p).1.2] ∧ μ' = μ.set k (GC.goal p).2.ds
theorem cGoa (T : Bt mg) (C1 : CSip P w K mg base) (D : Df K mg "_law_goal" sLGoal) : Cal P w K mg base "_law_goal" 2 ["_law_cup_here"] cnGoa := by
  refine D.cal scGoa (fun _ _ _ _ _ _ us hl => match us, hl with | [_], _ => rfl) (by decide) (fun rs μ r μ' h => by obtain ⟨_, _, _, _, _, rfl⟩ := h; simp) fun f cdv A outer s H E hr rs μ r μ' hC => ?_
  obtain ⟨k, p, rfl, ⟨hk, hp⟩, rfl, rfl⟩ := hC
  obtain ⟨a0, a1, hp1⟩ := GC.sip_ok (t := 4) hp (by decide)
  refine ST.set (i := 1) (r := Ss (G.nth Str.empty GC.goals4 (GC.sip 4 p).1)) (ixL (EVF.lst (ds := GC.goals4.map .str) (AV.cons EV.str (AV.cons EV.str (AV.cons EV.str (AV.cons EV.str AV.nil))))).ev (EV.sip C1 hr (by decide) (nm 0) EV.int hk hp) (at_nthS a0 a1)) scGoa.nd rfl (by first | exact Or.inl rfl | exact Or.inr rfl) ?_
  have hk1 := at_set (es := (GC.sip 4 p).2.ds) hk
  unfold GC.goal
  generalize G.nth Str.empty GC.goals4 (GC.sip 4 p).1 = wd at *
  generalize (GC.sip 4 p).2 = q at *
  cases hw : (wd == ("last" : Str)) with
  | true =>
    rw [if_pos rfl]
    exact ST.retP (EV.tup (ds := [.str wd, .int (1 + (GC.sip 4 q).1)]) (AV.cons (nm 1) (AV.cons (EV.ifx (k := wd == ("last" : Str)) (TV.eq (tEq (d := .str wd) (d2 := .str "last") (nm 1) EV.str) rfl) (fun _ => oAdd EV.int (EV.st (EV.sip C1 hr (by decide) (nm 0) EV.int hk1 hp1) ssetC)) (fun z => by rw [hw] at z; cases z)) AV.nil))) rfl take_set
  | false =>
    rw [if_neg (by decide)]
    exact ST.retP (EV.tup (ds := [.str wd, .int 0]) (AV.cons (nm 1) (AV.cons (EV.ifx (k := wd == ("last" : Str)) (TV.eq (tEq (d := .str wd) (d2 := .str "last") (nm 1) EV.str) rfl) (fun z => by rw [hw] at z; cases z) (fun _ => EV.int)) AV.nil))) rfl take_set
end
end J
/-! KC4: the sketch of a book: plans, the whole. -/
namespace J
open PySem PySem.Spec
open PyProof.Rows L2
variable [KC]
section
variable {w : World} {P : Program} {K : PySem.W.Frag} {base : Heap} {mg : Str → Option Value}
abbrev nPla : List Str := ["_law_cup_here", "_law_labels_here", "_law_at", "_law_most", "_law_goal_here", "_law_base", "_law_many", "_law_k"]
theorem scPla : FnScope nPla ["_law_cup_here", "_law_labels_here", "_law_at", "_law_most"] (defScope sLPlan) := ⟨rfl, rfl, rfl, by decide +kernel, rfl, by decide +kernel, by decide +kernel⟩
def cnPla : Con := fun rs μ r μ' => ∃ (k : Nat) (p : GC.Cu) (ls : List Str) (at_ most : Int), rs = [.ptr k, Ls (ls.map .str), Ii at_, Ii most] ∧ (μ[k]? = some p.ds ∧ p.ok ∧ ls.length ≤ 100 ∧ 0 ≤ at_ ∧ at_ < ls.length ∧ 0 < most ∧ most ≤ 100) ∧ r = .dat (GC.pd (GC.plan ls at_ most p).1) ∧ μ' = μ.set k (GC.plan ls at_ most p).2.ds
abbrev CPla (P : Program) (w : World) (K : PySem.W.Frag) (mg : Str → Option Value) (base : Heap) : Prop := Cal P w K mg base "_law_plan" 4 ["_law_cup_here", "_law_labels_here", "_law_at", "_law_most"] cnPla
theorem cPla (T : Bt mg) (C1 : CSip P w K mg base) (C2 : CRnd P w K mg base) (C3 : Cal P w K mg base "_law_goal" 2 ["_law_cup_here"] cnGoa) (D : Df K mg "_law_plan" sLPlan) : CPla P w K mg base := by
  refine D.cal scPla (fun _ _ _ _ _ _ us hl => match us, hl with | [_, _, _, _], _ => rfl) (by decide) (fun rs μ r μ' h => by obtain ⟨_, _, _, _, _, _, _, _, rfl⟩ := h; simp) fun f cdv A outer s H E hr rs μ r μ' hC => ?_
  obtain ⟨k, p, ls, at_, most, rfl, ⟨hk, hp, hll, h0, h1, m0, m1⟩, rfl, rfl⟩ := hC
  have hne : ls ≠ [] := fun z => by rw [z] at h1; simp at h1; omega
  have hp1 := GC.goal_ok hp
  obtain ⟨a0, a1, hp2⟩ := GC.sip_ok (t := 4) hp1 (by decide)
  obtain ⟨b0, b1, hp3⟩ := GC.sip_ok (t := most) hp2 m0
  refine ST.par3 (i := 4) (j := 5) (l := 6) (r1 := Tp [.str (GC.goal p).1.1, .int (GC.goal p).1.2]) (r2 := Ii (1 + (GC.sip 4 (GC.goal p).2).1)) (r3 := Ii (1 + (GC.sip most (GC.sip 4 (GC.goal p).2).2).1)) (μ1 := μ.set k (GC.sip most (GC.sip 4 (GC.goal p).2).2).2.ds) (AV.cons (EV.call C3 (hr.mono (by decide)) (AV.cons (nm 0) AV.nil) ⟨k, p, rfl, ⟨hk, hp⟩, rfl, rfl⟩) (AV.cons (oAdd EV.int (EV.st (EV.sip C1 hr (by decide) (nm 0) EV.int (at_set hk) hp1) ssetC)) (AV.cons (oAdd EV.int (EV.st (EV.sip C1 hr (by decide) (nm 0) (nm 3) (at_set hk) hp2 m0 (by omega)) ssetC)) AV.nil))) scPla.nd rfl rfl rfl (by decide) (by decide) (by decide) rfl rfl rfl ?_ rfl
  refine ST.envK (ρ' := [some (.ptr k), some (Ls (ls.map .str)), some (Ii at_), some (Ii most), some (Tp [.str (GC.goal p).1.1, .int (GC.goal p).1.2]), some (Ii (1 + (GC.sip 4 (GC.goal p).2).1)), some (Ii (1 + (GC.sip most (GC.sip 4 (GC.goal p).2).2).1)), none]) rfl ?_
  refine ST.retP (EVF.lst (ds := [.str (G.nth Str.empty ls at_), .tuple [.str (GC.goal p).1.1, .int (GC.goal p).1.2], .int (1 + (GC.sip 4 (GC.goal p).2).1), .list ((GC.plan ls at_ most p).1.rounds.map fun r => .list (r.map G.Part.d))]) (AV.cons (ixL (nm 1) (nm 2) (at_nthS h0 h1)) (AV.cons (nm 4) (AV.cons (nm 5) (AV.cons (LCV.evf (own := [("_law_k", 7)]) (LCV.runC (k := k) (p := (GC.sip most (GC.sip 4 (GC.goal p).2).2).2) (μ1 := μ.set k (GC.sip most (GC.sip 4 (GC.goal p).2).2).2.ds) (bs := List.range (1 + (GC.sip most (GC.sip 4 (GC.goal p).2).2).1).toNat) (fun (i : Nat) => PyData.int (0 + (i : Int))) (fun r => .list (r.map G.Part.d)) (fun (_ : Nat) => GC.round ls at_) (IV.eqD (IV.rng1 (nm 6) (by omega) (by omega) T.range) rfl) ssetC.symm hp3 (fun b hb q hq => GC.round_ok hq hne) (fun b hb q hq => ⟨_, fun _ _ _ _ _ => GV.name (i := 7) scPla.nd rfl (Or.inl rfl) (by simp), fun _ _ _ _ _ => EV.st (EV.call C2 hr (AV.cons (nm 0) (AV.cons (nm 1) (AV.cons (nm 2) AV.nil))) ⟨k, q, ls, at_, rfl, ⟨by rw [ssetC]; exact at_set hk, hq, hne, hll, h0⟩, rfl, rfl⟩) ssetC⟩) (by simp; omega)) rfl scPla.nd (blkOk_by (N := nPla) (sc := defScope sLPlan) (by decide +kernel))).ev AV.nil))))).ev rfl ?_
  rw [ssetC]
  exact take_set
/-! ### right plans -/
abbrev nGod : List Str := ["_law_cup_here", "_law_labels_here", "_law_at", "_law_label", "_law_base", "_law_pick", "_law_some"]
theorem scGod : FnScope nGod ["_law_cup_here", "_law_labels_here", "_law_at"] (defScope sLGood) := ⟨rfl, rfl, rfl, by decide +kernel, rfl, by decide +kernel, by decide +kernel⟩
def cnGod : Con := fun rs μ r μ' => ∃ (k : Nat) (p : GC.Cu) (ls : List Str) (at_ : Int), rs = [.ptr k, Ls (ls.map .str), Ii at_] ∧ (μ[k]? = some p.ds ∧ p.ok ∧ ls.length ≤ 100 ∧ 0 ≤ at_ ∧ at_ < ls.length) ∧ r = .dat (GC.pd (GC.good ls at_ p).1) ∧ μ' = μ.set k (GC.good ls at_ p).2.ds
abbrev CGod (P : Program) (w : World) (K : PySem.W.Frag) (mg : Str → Option Value) (base : Heap) : Prop := Cal P w K mg base "_law_good" 2 ["_law_cup_here", "_law_labels_here", "_law_at"] cnGod
theorem cGod (T : Bt mg) (C1 : CSip P w K mg base) (D : Df K mg "_law_good" sLGood) : CGod P w K mg base := by
  refine D.cal scGod (fun _ _ _ _ _ _ us hl => match us, hl with | [_, _, _], _ => rfl) (by decide) (fun rs μ r μ' h => by obtain ⟨_, _, _, _, _, _, _, rfl⟩ := h; simp) fun f cdv A outer s H E hr rs μ r μ' hC => ?_
  obtain ⟨k, p, ls, at_, rfl, ⟨hk, hp, hll, h0, h1⟩, rfl, rfl⟩ := hC
  obtain ⟨a0, a1, hp1⟩ := GC.sip_ok (t := 3) hp (by decide)
  obtain ⟨b0, b1, hp2⟩ := GC.sip_ok (t := 4) hp1 (by decide)
  refine ST.par3 (i := 3) (j := 4) (l := 5) (r1 := Ss (G.nth Str.empty ls at_)) (r2 := Ii (1 + (GC.sip 3 p).1)) (r3 := Ii (GC.sip 4 (GC.sip 3 p).2).1) (μ1 := μ.set k (GC.sip 4 (GC.sip 3 p).2).2.ds) (AV.cons (ixL (nm 1) (nm 2) (at_nthS h0 h1)) (AV.cons (oAdd EV.int (EV.sip C1 hr (by decide) (nm 0) EV.int hk hp)) (AV.cons (EV.st (EV.sip C1 hr (by decide) (nm 0) EV.int (at_set hk) hp1) ssetC) AV.nil))) scGod.nd rfl rfl rfl (by decide) (by decide) (by decide) rfl rfl rfl ?_ rfl
  unfold GC.good
  dsimp only
  generalize G.nth Str.empty ls at_ = lab at *
  generalize (GC.sip 3 p).1 = bs at *
  generalize (GC.sip 4 (GC.sip 3 p).2).1 = pk at *
  generalize (GC.sip 4 (GC.sip 3 p).2).2 = q at *
  refine ST.envK (ρ' := [some (.ptr k), some (Ls (ls.map .str)), some (Ii at_), some (Ss lab), some (Ii (1 + bs)), some (Ii pk), none]) rfl ?_
  unfold GC.goodM
  refine ST.ifR (TV.eq (k' := decide (pk = 0)) (tEq (d := .int pk) (d2 := .int 0) (nm 5) EV.int) rfl) (fun hb => ?_) (fun hb => ?_)
  · rw [if_pos (of_decide_eq_true hb)]
    exact ST.retP (EVF.lst (ds := [.str lab, .tuple [.str "last", .int 2], .int (1 + bs), .list [.list [(GC.jn 0 1 1).d]]]) (AV.cons (nm 3) (AV.cons (EV.tup (ds := [.str "last", .int 2]) (AV.cons EV.str (AV.cons EV.int AV.nil))) (AV.cons (nm 4) (AV.cons (EVF.lst (ds := [.list [(GC.jn 0 1 1).d]]) (AV.cons (EVF.lst (ds := [(GC.jn 0 1 1).d]) (AV.cons (EV.tup (ds := (GC.jn 0 1 1).items) (AV.cons EV.str (AV.cons EV.int (AV.cons EV.int (AV.cons EV.str (AV.cons EV.int (AV.cons EV.str AV.nil))))))) AV.nil)).ev AV.nil)).ev AV.nil))))).ev rfl take_set
  rw [if_neg (of_decide_eq_false hb)]
  refine ST.ifR (TV.eq (k' := decide (pk = 1)) (tEq (d := .int pk) (d2 := .int 1) (nm 5) EV.int) rfl) (fun hb => ?_) (fun hb => ?_)
  · rw [if_pos (of_decide_eq_true hb)]
    exact ST.retP (EVF.lst (ds := [.str lab, .tuple [.str "last", .int 4], .int (1 + bs), .list [.list [(GC.jn 0 1 1).d], .list [(GC.jn 0 1 2).d]]]) (AV.cons (nm 3) (AV.cons (EV.tup (ds := [.str "last", .int 4]) (AV.cons EV.str (AV.cons EV.int AV.nil))) (AV.cons (nm 4) (AV.cons (EVF.lst (ds := [.list [(GC.jn 0 1 1).d], .list [(GC.jn 0 1 2).d]]) (AV.cons (EVF.lst (ds := [(GC.jn 0 1 1).d]) (AV.cons (EV.tup (ds := (GC.jn 0 1 1).items) (AV.cons EV.str (AV.cons EV.int (AV.cons EV.int (AV.cons EV.str (AV.cons EV.int (AV.cons EV.str AV.nil))))))) AV.nil)).ev (AV.cons (EVF.lst (ds := [(GC.jn 0 1 2).d]) (AV.cons (EV.tup (ds := (GC.jn 0 1 2).items) (AV.cons EV.str (AV.cons EV.int (AV.cons EV.int (AV.cons EV.str (AV.cons EV.int (AV.cons EV.str AV.nil))))))) AV.nil)).ev AV.nil))).ev AV.nil))))).ev rfl take_set
  rw [if_neg (of_decide_eq_false hb)]
  refine ST.ifR (TV.eq (k' := decide (pk = 2)) (tEq (d := .int pk) (d2 := .int 2) (nm 5) EV.int) rfl) (fun hb => ?_) (fun hb => ?_)
  · rw [if_pos (of_decide_eq_true hb)]
    refine ST.set (i := 6) (r := Ls [.list [(GC.jn 1 2 1).d], .list [(GC.cl 1 2 lab).d]]) (EVF.lst (ds := [.list [(GC.jn 1 2 1).d], .list [(GC.cl 1 2 lab).d]]) (AV.cons (EVF.lst (ds := [(GC.jn 1 2 1).d]) (AV.cons (EV.tup (ds := (GC.jn 1 2 1).items) (AV.cons EV.str (AV.cons EV.int (AV.cons EV.int (AV.cons EV.str (AV.cons EV.int (AV.cons EV.str AV.nil))))))) AV.nil)).ev (AV.cons (EVF.lst (ds := [(GC.cl 1 2 lab).d]) (AV.cons (EV.tup (ds := (GC.cl 1 2 lab).items) (AV.cons EV.str (AV.cons EV.int (AV.cons EV.int (AV.cons EV.str (AV.cons EV.int (AV.cons (nm 3) AV.nil))))))) AV.nil)).ev AV.nil))).ev scGod.nd rfl (by first | exact Or.inl rfl | exact Or.inr rfl) ?_
    exact ST.retP (EVF.lst (ds := [.str lab, .tuple [.str "all", .int 0], .int (1 + bs), .list ([.list [(GC.jn 1 2 1).d], .list [(GC.cl 1 2 lab).d]] ++ [.list [(GC.jn 0 2 1).d]])]) (AV.cons (nm 3) (AV.cons (EV.tup (ds := [.str "all", .int 0]) (AV.cons EV.str (AV.cons EV.int AV.nil))) (AV.cons (nm 4) (AV.cons (oCat (ds := [.list [(GC.jn 1 2 1).d], .list [(GC.cl 1 2 lab).d]]) (ys := [.list [(GC.jn 0 2 1).d]]) (nm 6) (EVF.lst (ds := [.list [(GC.jn 0 2 1).d]]) (AV.cons (EVF.lst (ds := [(GC.jn 0 2 1).d]) (AV.cons (EV.tup (ds := (GC.jn 0 2 1).items) (AV.cons EV.str (AV.cons EV.int (AV.cons EV.int (AV.cons EV.str (AV.cons EV.int (AV.cons EV.str AV.nil))))))) AV.nil)).ev AV.nil)).ev (sz (Nat.le_of_ble_eq_true rfl))) AV.nil))))).ev rfl take_set
  · rw [if_neg (of_decide_eq_false hb)]
    refine ST.set (i := 6) (r := Ls [.list [(GC.jn 1 3 1).d], .list [(GC.jn 2 3 1).d], .list [(GC.cl 2 3 lab).d]]) (EVF.lst (ds := [.list [(GC.jn 1 3 1).d], .list [(GC.jn 2 3 1).d], .list [(GC.cl 2 3 lab).d]]) (AV.cons (EVF.lst (ds := [(GC.jn 1 3 1).d]) (AV.cons (EV.tup (ds := (GC.jn 1 3 1).items) (AV.cons EV.str (AV.cons EV.int (AV.cons EV.int (AV.cons EV.str (AV.cons EV.int (AV.cons EV.str AV.nil))))))) AV.nil)).ev (AV.cons (EVF.lst (ds := [(GC.jn 2 3 1).d]) (AV.cons (EV.tup (ds := (GC.jn 2 3 1).items) (AV.cons EV.str (AV.cons EV.int (AV.cons EV.int (AV.cons EV.str (AV.cons EV.int (AV.cons EV.str AV.nil))))))) AV.nil)).ev (AV.cons (EVF.lst (ds := [(GC.cl 2 3 lab).d]) (AV.cons (EV.tup (ds := (GC.cl 2 3 lab).items) (AV.cons EV.str (AV.cons EV.int (AV.cons EV.int (AV.cons EV.str (AV.cons EV.int (AV.cons (nm 3) AV.nil))))))) AV.nil)).ev AV.nil)))).ev scGod.nd rfl (by first | exact Or.inl rfl | exact Or.inr rfl) ?_
    exact ST.retP (EVF.lst (ds := [.str lab, .tuple [.str "all", .int 0], .int (1 + bs), .list ([.list [(GC.jn 1 3 1).d], .list [(GC.jn 2 3 1).d], .list [(GC.cl 2 3 lab).d]] ++ [.list [(GC.jn 0 3 1).d, (GC.jn 1 3 2).d]])]) (AV.cons (nm 3) (AV.cons (EV.tup (ds := [.str "all", .int 0]) (AV.cons EV.str (AV.cons EV.int AV.nil))) (AV.cons (nm 4) (AV.cons (oCat (ds := [.list [(GC.jn 1 3 1).d], .list [(GC.jn 2 3 1).d], .list [(GC.cl 2 3 lab).d]]) (ys := [.list [(GC.jn 0 3 1).d, (GC.jn 1 3 2).d]]) (nm 6) (EVF.lst (ds := [.list [(GC.jn 0 3 1).d, (GC.jn 1 3 2).d]]) (AV.cons (EVF.lst (ds := [(GC.jn 0 3 1).d, (GC.jn 1 3 2).d]) (AV.cons (EV.tup (ds := (GC.jn 0 3 1).items) (AV.cons EV.str (AV.cons EV.int (AV.cons EV.int (AV.cons EV.str (AV.cons EV.int (AV.cons EV.str AV.nil))))))) (AV.cons (EV.tup (ds := (GC.jn 1 3 2).items) (AV.cons EV.str (AV.cons EV.int (AV.cons EV.int (AV.cons EV.str (AV.cons EV.int (AV.cons EV.str AV.nil))))))) AV.nil))).ev AV.nil)).ev (sz (Nat.le_of_ble_eq_true rfl))) AV.nil))))).ev rfl take_set
/-! ### the sketch -/
abbrev nSke : List Str := ["_law_cup_here", "_law_span", "_law_most", "_law_labels_here", "_law_plans", "_law_at"]
theorem scSke : FnScope nSke ["_law_cup_here", "_law_span", "_law_most"] (defScope sLSketch) := ⟨rfl, rfl, rfl, by decide +kernel, rfl, by decide +kernel, by decide +kernel⟩
def cnSke : Con := fun rs μ r μ' => ∃ (k : Nat) (p : GC.Cu) (n : Nat) (most : Int), rs = [.ptr k, Ii (n : Int), Ii most] ∧ (μ[k]? = some p.ds ∧ p.ok ∧ n ≤ 50 ∧ 0 < most ∧ most ≤ 100) ∧ r = Ls ((GC.sketch n most p).1.map GC.pd) ∧ μ' = μ.set k (GC.sketch n most p).2.ds
abbrev CSke (P : Program) (w : World) (K : PySem.W.Frag) (mg : Str → Option Value) (base : Heap) : Prop := Cal P w K mg base "_law_sketch" 5 ["_law_cup_here", "_law_span", "_law_most"] cnSke
theorem cSke (T : Bt mg) (C1 : CSip P w K mg base) (C2 : Cal P w K mg base "_law_labels" 2 ["_law_cup_here", "_law_span"] cnLab) (C3 : CGod P w K mg base) (C4 : CPla P w K mg base) (D : Df K mg "_law_sketch" sLSketch) : CSke P w K mg base := by
  refine D.cal scSke (fun _ _ _ _ _ _ us hl => match us, hl with | [_, _, _], _ => rfl) (by decide) (fun rs μ r μ' h => by obtain ⟨_, _, _, _, _, _, _, rfl⟩ := h; simp) fun f cdv A outer s H E hr rs μ r μ' hC => ?_
  obtain ⟨k, p, n, most, rfl, ⟨hk, hp, hn, m0, m1⟩, rfl, rfl⟩ := hC
  have hkl := (List.getElem?_eq_some_iff.mp hk).1
  have hml : ∀ x, (μ.set k x).length = μ.length := fun x => List.length_set
  obtain ⟨hp1, hlen⟩ := GC.labels_ok (n := n) hp
  refine ST.parC (i := 3) (j := 4) (r1 := Ls ((GC.labels n p).1.map .str)) (ys := []) (μ2 := μ.set k (GC.labels n p).2.ds) (EV.call C2 (hr.mono (by decide)) (AV.cons (nm 0) (AV.cons (nm 1) AV.nil)) ⟨k, p, n, rfl, ⟨hk, hp, by omega⟩, rfl, rfl⟩) (EVF.lst (ds := []) AV.nil) scSke.nd rfl rfl (by decide) rfl rfl ?_ rfl
  have hrun : (GC.sketch n most p) = GC.run (GC.one (GC.labels n p).1 most) (List.range n) (GC.labels n p).2 := rfl
  rw [hrun]
  clear hrun
  generalize (GC.labels n p).1 = ls at *
  generalize (GC.labels n p).2 = q0 at *
  refine ST.envK (ρ' := [some (.ptr k), some (Ii (n : Int)), some (Ii most), some (Ls (ls.map .str)), some (.ptr μ.length), none]) (by rw [hml]; rfl) ?_
  have rok : ∀ i, i ≤ n → (GC.run (GC.one ls most) (List.range i) q0).2.ok := fun i hi => (GC.run_ok (R := fun _ _ => True) _ _ (fun b hb q hq => ⟨trivial, GC.one_ok hq (fun z => by rw [z] at hlen; simp at hlen; have := List.mem_range.mp hb; omega) m0⟩) hp1).2
  refine ST.for_ (is := [5]) (IV.rng1 (nm 1) (by omega) (by omega) T.range) (fun i ρ ν => (∃ x5, ρ = [some (.ptr k), some (Ii (n : Int)), some (Ii most), some (Ls (ls.map .str)), some (.ptr μ.length), x5]) ∧ ν = μ.set k (GC.run (GC.one ls most) (List.range i) q0).2.ds ++ [(GC.run (GC.one ls most) (List.range i) q0).1.map GC.pd]) ⟨⟨_, rfl⟩, rfl⟩ (fun i d ρ ν hd hI => ?_) (fun ρ ν hI => ?_)
  · obtain ⟨⟨x5, rfl⟩, rfl⟩ := hI
    have hi : i < n := by
      have := (List.getElem?_eq_some_iff.mp hd).1
      rw [rngD_len] at this
      omega
    obtain rfl : d = .int (i : Int) := by
      unfold rngD at hd
      rw [List.getElem?_map, List.getElem?_range (by omega)] at hd
      cases hd
      show PyData.int (0 + (i : Int)) = _
      rw [Int.zero_add]
    have e1 : GC.run (GC.one ls most) (List.range (i + 1)) q0 = ((GC.run (GC.one ls most) (List.range i) q0).1 ++ [(GC.one ls most i (GC.run (GC.one ls most) (List.range i) q0).2).1], (GC.one ls most i (GC.run (GC.one ls most) (List.range i) q0).2).2) := by
      rw [List.range_succ, GC.run_snoc]
    have hq := rok i (by omega)
    have hfl : (GC.run (GC.one ls most) (List.range i) q0).1.length = i := by rw [GC.run_len, List.length_range]
    rw [e1]
    generalize (GC.run (GC.one ls most) (List.range i) q0).2 = q at *
    generalize (GC.run (GC.one ls most) (List.range i) q0).1 = fs at *
    refine ⟨_, GV.name (i := 5) scSke.nd rfl (by first | exact Or.inl rfl | exact Or.inr rfl) (by simp), ?_⟩
    refine ST.envK (ρ' := [some (.ptr k), some (Ii (n : Int)), some (Ii most), some (Ls (ls.map .str)), some (.ptr μ.length), some (Ii (i : Int))]) rfl ?_
    have g1 : ∀ (es : List PyData), (μ.set k es ++ [fs.map GC.pd])[k]? = some es := fun es => by rw [ap_get (by rw [hml]; exact hkl)]; exact at_set hk
    have s1 : ∀ (es es2 : List PyData), (μ.set k es ++ [fs.map GC.pd]).set k es2 = μ.set k es2 ++ [fs.map GC.pd] := fun es es2 => by rw [ap_set (by rw [hml]; exact hkl), sset]
    have gl : ∀ (es : List PyData), (μ.set k es ++ [fs.map GC.pd])[μ.length]? = some (fs.map GC.pd) := fun es => by
      have := at_last (μ := μ.set k es) (x := fs.map GC.pd) (rest := [])
      rwa [hml] at this
    have gs : ∀ (es y : List PyData), (μ.set k es ++ [fs.map GC.pd]).set μ.length y = μ.set k es ++ [y] := fun es y => by
      have := set_last (μ := μ.set k es) (x := fs.map GC.pd) (y := y) (rest := [])
      rwa [hml] at this
    obtain ⟨a0, a1, hq1⟩ := GC.sip_ok (t := 2) hq (by decide)
    refine ST.expr (r := Nn) (μ1 := μ.set k (GC.one ls most i q).2.ds ++ [(fs ++ [(GC.one ls most i q).1]).map GC.pd]) (EV.st (EV.app (d := GC.pd (GC.one ls most i q).1) (nm 4) (μ2 := μ.set k (GC.one ls most i q).2.ds ++ [fs.map GC.pd]) (EV.ifx (k := decide ((GC.sip 2 q).1 = 0)) (μ1 := μ.set k (GC.sip 2 q).2.ds ++ [fs.map GC.pd]) (TV.eq (tEq (d := .int (GC.sip 2 q).1) (d2 := .int 0) (EV.st (EV.sip C1 (by assumption) (by decide) (nm 0) EV.int (g1 _) hq) (s1 _ _)) EV.int) rfl) (fun hb => ?_) (fun hb => ?_)) (gl _) (by rw [List.length_map]; omega)) (by rw [gs, List.map_append]; rfl)) (ST.nil ⟨⟨_, rfl⟩, rfl⟩)
    · have e2 : GC.one ls most i q = GC.good ls (i : Int) (GC.sip 2 q).2 := if_pos (of_decide_eq_true hb)
      rw [e2]
      exact EV.st (EV.call C3 (Room.mono (by assumption) (by decide)) (AV.cons (nm 0) (AV.cons (nm 3) (AV.cons (nm 5) AV.nil))) ⟨k, _, ls, _, rfl, ⟨g1 _, hq1, by omega, by omega, by omega⟩, rfl, rfl⟩) (s1 _ _)
    · have e2 : GC.one ls most i q = GC.plan ls (i : Int) most (GC.sip 2 q).2 := if_neg (of_decide_eq_false hb)
      rw [e2]
      exact EV.st (EV.call C4 (by assumption) (AV.cons (nm 0) (AV.cons (nm 3) (AV.cons (nm 5) (AV.cons (nm 2) AV.nil)))) ⟨k, _, ls, _, most, rfl, ⟨g1 _, hq1, by omega, by omega, by omega, m0, m1⟩, rfl, rfl⟩) (s1 _ _)
  · obtain ⟨⟨x5, rfl⟩, rfl⟩ := hI
    rw [rngD_len, show ((n : Int)).toNat = n by omega]
    refine ST.retP (nm 4) ?_ ?_
    · show (if μ.length < μ.length then _ else Ent.dat (PyData.list (List.getD _ _ _))) = _
      rw [if_neg (by omega)]
      have := at_last (μ := μ.set k (GC.run (GC.one ls most) (List.range n) q0).2.ds) (x := (GC.run (GC.one ls most) (List.range n) q0).1.map GC.pd) (rest := [])
      rw [hml] at this
      rw [List.getD_eq_getElem?_getD, this]
      rfl
    · rw [List.take_append_of_le_length (by rw [hml]; exact Nat.le_refl _)]
      exact take_set
end
end J
/-! KC5: the texts of a sketch. -/
namespace GC
open PySem J
variable [KC]
structure PlOk (x : G.Mate) : Prop where
  t : x.tag.length ≤ 8
  g : x.goal.1.length ≤ 8
  n : 0 ≤ x.goal.2 ∧ x.goal.2 ≤ 9
  b : 0 ≤ x.base ∧ x.base ≤ 9
  l : x.rounds.length ≤ 9
  r : ∀ r ∈ x.rounds, r.length ≤ 9 ∧ ∀ y ∈ r, G.PartOk y
end GC
namespace J
open PySem PySem.Spec
open PyProof.Rows L2
variable [KC]
section
variable {w : World} {P : Program} {K : PySem.W.Frag} {base : Heap} {mg : Str → Option Value}
abbrev nCT : List Str := ["_law_clause_here", "_law_word", "_law_rest", "_law_step", "_law_side", "_law_far", "_law_label", "_law_spot"]
theorem scCT : FnScope nCT ["_law_clause_here"] (defScope sLClauseText) := ⟨rfl, rfl, rfl, by decide +kernel, rfl, by decide +kernel, by decide +kernel⟩
def cnCT : Con := fun rs μ r μ' => ∃ x : G.Part, rs = [.dat x.d] ∧ G.PartOk x ∧ r = Ss (G.clause x) ∧ μ' = μ
theorem ct_clear (e : Str) : ("clear" : Str) ++ " " ++ e ++ "" = "clear " ++ e := by
  refine TL.ext_tl ?_
  simp only [TL.tl_append, show TL.tl ("clear " : Str) = TL.tl "clear" ++ TL.tl " " by decide +kernel, show TL.tl ("" : Str) = [] by decide +kernel, List.append_nil]
theorem ct_deed (w e s f : Str) : w ++ " " ++ e ++ (" " ++ s ++ " " ++ f) = w ++ " " ++ e ++ " " ++ s ++ " " ++ f := by
  refine TL.ext_tl ?_
  simp only [TL.tl_append, List.append_assoc]
theorem cCT (T : Bt mg) (D : Df K mg "_law_clause_text" sLClauseText) : Cal P w K mg base "_law_clause_text" 1 ["_law_clause_here"] cnCT := by
  refine D.cal scCT (fun _ _ _ _ _ _ us hl => match us, hl with | [_], _ => rfl) (by decide) (fun rs μ r μ' h => by obtain ⟨_, _, _, _, rfl⟩ := h; rfl) fun f cdv A outer s H E hr rs μ r μ' hC => ?_
  obtain ⟨x, rfl, hx, rfl, rfl⟩ := hC
  have he := ends_len hx
  have l1 := hx.w
  have l2 := hx.s
  have l3 := hx.t
  have l4 := strI_len _ hx.f.1 hx.f.2
  have l5 := strI_len _ hx.o.1 hx.o.2
  have l6 := strI_len _ hx.b.1 hx.b.2
  have e1 : ((("call " : String) : Str)).length = 5 := by decide +kernel
  have e2 : (((" on " : String) : Str)).length = 4 := by decide +kernel
  have e4 : (((" " : String) : Str)).length = 1 := by decide +kernel
  have e5 : (((" of " : String) : Str)).length = 4 := by decide +kernel
  have e6 : ((("" : String) : Str)).length = 0 := by decide +kernel
  have e7 : ((("clear" : String) : Str)).length = 5 := by decide +kernel
  have big : ∀ n : Nat, n ≤ 100 → n ≤ sizeLine := fun n h => sz (by omega)
  refine ST.asg (is := [1, 2, 3, 4, 5, 6]) (nm 0) (GV.tup (GsV.cons (GV.name (i := 1) scCT.nd rfl (Or.inl rfl) (by simp)) (GsV.cons (GV.name (i := 2) scCT.nd rfl (Or.inl rfl) (by simp)) (GsV.cons (GV.name (i := 3) scCT.nd rfl (Or.inl rfl) (by simp)) (GsV.cons (GV.name (i := 4) scCT.nd rfl (Or.inl rfl) (by simp)) (GsV.cons (GV.name (i := 5) scCT.nd rfl (Or.inl rfl) (by simp)) (GsV.cons (GV.name (i := 6) scCT.nd rfl (Or.inl rfl) (by simp)) GsV.nil))))))) ?_
  refine ST.set (i := 7) (r := Ss (G.ends x)) (oAddS (oAddS (bStr T (nm 2) (log_dig hx.o)) EV.str (big _ (by show ((toString x.over : String) : Str).length + _ ≤ _; have : ((toString x.over : String) : Str).length = 1 := l5; rw [this, e5]; decide))) (bStr T (nm 3) (log_dig hx.b)) (big _ (by
    have a : ((toString x.over : String) : Str).length = 1 := l5
    have b : ((toString x.by_ : String) : Str).length = 1 := l6
    rw [strLen_append, l5, l6, e5]
    decide))) scCT.nd rfl (Or.inl rfl) ?_
  refine ST.envK (ρ' := [some (.dat x.d), some (Ss x.word), some (Ii x.over), some (Ii x.by_), some (Ss x.side), some (Ii x.far), some (Ss x.tag), some (Ss (G.ends x))]) rfl ?_
  unfold G.clause
  refine ST.ifR (tEq (nm 1) EV.str) (fun hb => ?_) (fun hb => ?_)
  · have hb' : x.word = "call" := eq_of_beq hb
    rw [if_pos hb']
    refine ST.retP (oAddS (oAddS (oAddS EV.str (nm 6) (big _ (by omega))) EV.str (big _ (by rw [strLen_append]; omega))) (nm 7) (big _ (by rw [strLen_append, strLen_append]; omega))) rfl
  · have hb' : ¬ x.word = "call" := fun z => by
      have h0 : (x.word == ("call" : Str)) = false := hb
      rw [z] at h0
      exact absurd h0 (by decide)
    rw [if_neg hb']
    have lf : ((toString x.far : String) : Str).length = 1 := l4
    by_cases hc : x.word = "clear"
    · rw [if_pos hc]
      exact ST.retP (EV.eq (oAddS (t := "") (oAddS (oAddS (nm 1) EV.str (big _ (by omega))) (nm 7) (big _ (by rw [strLen_append]; omega))) (EV.ifx (μ1 := μ') (k := decide (x.word = "clear")) (TV.eq (tEq (d := .str x.word) (d2 := .str "clear") (nm 1) EV.str) rfl) (fun _ => EV.str) (fun z => absurd hc (of_decide_eq_false z))) (big _ (by rw [strLen_append, strLen_append]; omega))) (congrArg Ss (by rw [hc]; exact ct_clear _))) rfl
    · rw [if_neg hc]
      exact ST.retP (EV.eq (oAddS (t := " " ++ x.side ++ " " ++ M.strI x.far) (oAddS (oAddS (nm 1) EV.str (big _ (by omega))) (nm 7) (big _ (by rw [strLen_append]; omega))) (EV.ifx (μ1 := μ') (k := decide (x.word = "clear")) (TV.eq (tEq (d := .str x.word) (d2 := .str "clear") (nm 1) EV.str) rfl) (fun z => absurd (of_decide_eq_true z) hc) (fun _ => oAddS (oAddS (oAddS EV.str (nm 4) (big _ (by omega))) EV.str (big _ (by rw [strLen_append]; omega))) (bStr T (nm 5) (log_dig hx.f)) (big _ (by rw [strLen_append, strLen_append, l4]; omega)))) (big _ (by rw [strLen_append, strLen_append, strLen_append, strLen_append, strLen_append]; omega))) (congrArg Ss (ct_deed _ _ _ _))) rfl
/-! ### goals -/
theorem scGT : FnScope ["_law_goal_here"] ["_law_goal_here"] (defScope sLGoalText) := ⟨rfl, rfl, rfl, by decide +kernel, rfl, by decide +kernel, by decide +kernel⟩
def cnGT : Con := fun rs μ r μ' => ∃ g : Str × Int, rs = [Tp [.str g.1, .int g.2]] ∧ (g.1.length ≤ 8 ∧ 0 ≤ g.2 ∧ g.2 ≤ 9) ∧ r = Ss (G.aim g) ∧ μ' = μ
theorem gt_last (a n : Str) : a ++ (" " ++ n) = a ++ " " ++ n := by
  refine TL.ext_tl ?_
  simp only [TL.tl_append, List.append_assoc]
theorem gt_none (a : Str) : a ++ "" = a := by
  refine TL.ext_tl ?_
  simp only [TL.tl_append, show TL.tl ("" : Str) = [] by decide +kernel, List.append_nil]
theorem cGT (T : Bt mg) (D : Df K mg "_law_goal_text" sLGoalText) : Cal P w K mg base "_law_goal_text" 1 ["_law_goal_here"] cnGT := by
  refine D.cal scGT (fun _ _ _ _ _ _ us hl => match us, hl with | [_], _ => rfl) (by decide) (fun rs μ r μ' h => by obtain ⟨_, _, _, _, rfl⟩ := h; rfl) fun f cdv A outer s H E hr rs μ r μ' hC => ?_
  obtain ⟨g, rfl, ⟨h1, h2, h3⟩, rfl, rfl⟩ := hC
  have e4 : (((" " : String) : Str)).length = 1 := by decide +kernel
  have e6 : ((("" : String) : Str)).length = 0 := by decide +kernel
  have l4 : ((toString g.2 : String) : Str).length = 1 := strI_len _ h2 h3
  have l5 := strI_len _ h2 h3
  have a0 : ([PyData.str g.1, .int g.2])[0]? = some (.str g.1) := rfl
  have a1 : ([PyData.str g.1, .int g.2])[1]? = some (.int g.2) := rfl
  unfold G.aim
  by_cases hc : g.1 = "last"
  · rw [if_pos hc]
    exact ST.retP (EV.eq (oAddS (t := " " ++ M.strI g.2) (ixT (nm 0) EV.int (at_nat a0)) (EV.ifx (μ1 := μ') (k := decide (g.1 = "last")) (TV.eq (tEq (d := .str g.1) (d2 := .str "last") (ixT (nm 0) EV.int (at_nat a0)) EV.str) rfl) (fun _ => oAddS EV.str (bStr T (ixT (nm 0) EV.int (at_nat a1)) (log_dig ⟨h2, h3⟩)) (sz (by rw [l5]; omega))) (fun z => absurd hc (of_decide_eq_false z))) (sz (by rw [strLen_append]; omega))) (congrArg Ss (gt_last _ _))) rfl
  · rw [if_neg hc]
    exact ST.retP (EV.eq (oAddS (t := "") (ixT (nm 0) EV.int (at_nat a0)) (EV.ifx (μ1 := μ') (k := decide (g.1 = "last")) (TV.eq (tEq (d := .str g.1) (d2 := .str "last") (ixT (nm 0) EV.int (at_nat a0)) EV.str) rfl) (fun z => absurd (of_decide_eq_true z) hc) (fun _ => EV.str)) (sz (by omega))) (congrArg Ss (gt_none _))) rfl
/-! ### plans as the program takes them -/
abbrev nPt : List Str := ["_law_plan_here", "_law_lines", "_law_clause_here", "_law_each"]
theorem scPt : FnScope nPt ["_law_plan_here"] (defScope sLParts) := ⟨rfl, rfl, rfl, by decide +kernel, rfl, by decide +kernel, by decide +kernel⟩
def cnPt : Con := fun rs μ r μ' => ∃ x : G.Mate, rs = [.dat (GC.pd x)] ∧ GC.PlOk x ∧ r = .dat (G.told x) ∧ μ' = μ
theorem cPt (T : Bt mg) (C1 : Cal P w K mg base "_law_clause_text" 1 ["_law_clause_here"] cnCT) (C2 : Cal P w K mg base "_law_goal_text" 1 ["_law_goal_here"] cnGT) (D : Df K mg "_law_parts" sLParts) : Cal P w K mg base "_law_parts" 2 ["_law_plan_here"] cnPt := by
  refine D.cal scPt (fun _ _ _ _ _ _ us hl => match us, hl with | [_], _ => rfl) (by decide) (fun rs μ r μ' h => by obtain ⟨_, _, _, _, rfl⟩ := h; rfl) fun f cdv A outer s H E hr rs μ r μ' hC => ?_
  obtain ⟨x, rfl, hx, rfl, rfl⟩ := hC
  have hl := hx.l
  have a0 : ([PyData.str x.tag, .tuple [.str x.goal.1, .int x.goal.2], .int x.base, .list (x.rounds.map fun r => .list (r.map G.Part.d))])[0]? = some (.str x.tag) := rfl
  have a1 : ([PyData.str x.tag, .tuple [.str x.goal.1, .int x.goal.2], .int x.base, .list (x.rounds.map fun r => .list (r.map G.Part.d))])[1]? = some (.tuple [.str x.goal.1, .int x.goal.2]) := rfl
  have a2 : ([PyData.str x.tag, .tuple [.str x.goal.1, .int x.goal.2], .int x.base, .list (x.rounds.map fun r => .list (r.map G.Part.d))])[2]? = some (.int x.base) := rfl
  have a3 : ([PyData.str x.tag, .tuple [.str x.goal.1, .int x.goal.2], .int x.base, .list (x.rounds.map fun r => .list (r.map G.Part.d))])[3]? = some (.list (x.rounds.map fun r => .list (r.map G.Part.d))) := rfl
  refine ST.set (i := 1) (r := Tp (x.rounds.map fun r => .str (G.line r))) (bTupL T (LCV.evf (own := [("_law_each", 3)]) (LCV.mapT (α := List G.Part) (fun r => .list (r.map G.Part.d)) (fun r => .str (G.line r)) (IV.lst (ixL (nm 0) EV.int (at_nat a3))) (fun r hrr => ?_) (by omega)) rfl scPt.nd (blkOk_by (N := nPt) (sc := defScope sLParts) (by decide +kernel))).ev) scPt.nd rfl (by first | exact Or.inl rfl | exact Or.inr rfl) ?_
  · obtain ⟨h9, hpo⟩ := hx.r r hrr
    have hs := line_sum h9 hpo
    refine ⟨_, fun _ _ _ _ _ => GV.name (i := 3) scPt.nd rfl (Or.inl rfl) (by simp), fun _ _ _ _ _ => EV.join (ys := r.map G.clause) EV.str (EV.eq (LCV.evf (own := [("_law_clause_here", 2)]) (LCV.mapT (α := G.Part) G.Part.d (fun y => .str (G.clause y)) (IV.lst (nm 3)) (fun y hy => ?_) (by omega)) rfl scPt.nd (blkOk_by (N := nPt) (by rfl))).ev (congrArg Ls (by rw [List.map_map]; rfl))) (by omega)⟩
    exact ⟨_, fun _ _ _ _ _ => GV.name (i := 2) scPt.nd rfl (Or.inl rfl) (by simp), fun _ _ _ _ _ => EV.call C1 hr (AV.cons (nm 2) AV.nil) ⟨y, rfl, hpo y hy, rfl, rfl⟩⟩
  · exact ST.retP (EV.tup (ds := [.str x.tag, .str (G.aim x.goal), .int x.base, .tuple (x.rounds.map fun r => .str (G.line r))]) (AV.cons (ixL (nm 0) EV.int (at_nat a0)) (AV.cons (EV.call C2 hr (AV.cons (ixL (nm 0) EV.int (at_nat a1)) AV.nil) ⟨x.goal, rfl, ⟨hx.g, hx.n.1, hx.n.2⟩, rfl, rfl⟩) (AV.cons (ixL (nm 0) EV.int (at_nat a2)) (AV.cons (nm 1) AV.nil))))) rfl
end
end J
/-! N6: whatever is read as a clause, a round, is the text of one. -/
namespace N
open PySem J L2
variable [KC]
theorem joinL_cons (S p : List Nat) {q : List (List Nat)} (h : q ≠ []) : TL.joinL S (p :: q) = p ++ (S ++ TL.joinL S q) := by
  cases q with
  | nil => exact absurd rfl h
  | cons a b => rfl
theorem pre_eq {S l : List Nat} (h : TL.pre S l = true) : l = S ++ l.drop S.length := by
  have h' : l.take S.length = S := beq_iff_eq.mp h
  have := List.take_append_drop S.length l
  rw [h'] at this
  exact this.symm
/-- what is cut is joined again -/
theorem join_spl {S : List Nat} (hS : S ≠ []) : ∀ (n : Nat) (l : List Nat), l.length ≤ n → ∀ acc, TL.joinL S (TL.spl S 0 acc l) = acc ++ l
  | n, [], _, acc => by rw [TL.spl_nil]; simp [TL.joinL]
  | 0, c :: r, h, acc => by simp at h
  | n + 1, c :: r, h, acc => by
    cases hp : TL.pre S (c :: r) with
    | false =>
      rw [TL.spl_miss hp, join_spl hS n r (by simpa using h)]
      simp
    | true =>
      rw [TL.spl_hit hp, TL.spl_pass, joinL_cons S acc (M.spl_ne _ _ _ _), join_spl hS n _ (by simp at h ⊢; omega)]
      have e := pre_eq hp
      cases S with
      | nil => exact absurd rfl hS
      | cons s S =>
        simp only [List.length_cons, List.drop_succ_cons] at e
        have e2 : c :: r = (s :: S) ++ r.drop S.length := e
        show acc ++ (s :: S ++ ([] ++ r.drop ((s :: S).length - 1))) = acc ++ c :: r
        rw [e2]
        rfl
theorem join_split {s t : Str} (h1 : TL.tl t ≠ []) (h2 : (TL.tl t).all (· < 256) = true) : Txt.join t (Txt.split s t) = s := by
  have e1 : t = SX.S (TL.tl t) := (M.S_of_tl t).symm
  rw [M.split_list s t h1 h2]
  have := SX.join_S (TL.tl t) (TL.spl (TL.tl t) 0 [] (TL.tl s))
  rw [← e1] at this
  rw [this, join_spl h1 _ _ (Nat.le_refl _)]
  exact M.S_of_tl s
theorem digit_inv {s : Str} {lo hi i : Int} (h0 : 0 ≤ lo) (h9 : hi ≤ 9) (h : M.readDigit s lo hi = .int i) : lo ≤ i ∧ i ≤ hi ∧ s = M.strI i := by
  unfold M.readDigit at h
  cases hk : inD (.str s) (M.digList lo hi) with
  | false => rw [hk] at h; simp at h
  | true =>
    rw [hk, if_pos rfl] at h
    obtain ⟨k, hk9, h1, h2, rfl⟩ := M.dig_in h0 h9 hk
    obtain ⟨_, e2, _⟩ := M.dig_text k hk9
    rw [e2] at h
    injection h with h
    subst h
    exact ⟨h1, h2, rfl⟩
theorem class_inv {ws : List Str} {pl : PyData} (h : M.readClass ws = pl) (hn : pl ≠ .none) : ∃ e d : Int, 0 ≤ e ∧ e < d ∧ 1 ≤ d ∧ d ≤ 3 ∧ pl = .tuple [.int e, .int d] ∧ ws = [M.strI e, "of", M.strI d] := by
  subst h
  unfold M.readClass at hn ⊢
  split at hn
  · rename_i a o b
    split at hn
    · rename_i ho
      rcases M.readDigit_cases b 1 3 (by decide) (by decide) with q | ⟨d, d1, d3, q⟩
      · rw [q] at hn; exact absurd rfl hn
      · rw [q] at hn
        rcases M.readDigit_cases a 0 (d - 1) (by decide) (by omega) with q2 | ⟨x, x1, x3, q2⟩
        · simp only [q2] at hn; exact absurd rfl hn
        · refine ⟨x, d, x1, by omega, d1, d3, ?_, ?_⟩
          · simp only [if_pos ho, q, q2]
          · have e1 := (digit_inv (by decide) (by decide) q).2.2
            have e2 := (digit_inv (by decide) (by omega) q2).2.2
            have e3 : o = M.ofS := beq_iff_eq.mp ho
            rw [e1, e2, e3]
            rfl
    · exact absurd rfl hn
  · exact absurd rfl hn
theorem way_inv {ws : List Str} {m : PyData} (h : M.readWay ws = m) (hn : m ≠ .none) : ∃ (sd : Str) (n : Int), (sd = "left" ∨ sd = "right") ∧ 1 ≤ n ∧ n ≤ 4 ∧ ws = [sd, M.strI n] ∧ m = (if sd = "right" then .int n else .int (-n)) := by
  subst h
  unfold M.readWay at hn ⊢
  split at hn
  · rename_i a b
    split at hn
    · rename_i ha
      rcases M.readDigit_cases b 1 4 (by decide) (by decide) with q | ⟨d, d1, d3, q⟩
      · rw [q] at hn; exact absurd rfl hn
      · have e1 := (digit_inv (by decide) (by decide) q).2.2
        refine ⟨a, d, M.inS2 ha, d1, d3, by rw [e1], ?_⟩
        simp only [if_pos ha, q]
        by_cases hr : a = "right"
        · rw [if_pos hr, if_pos (beq_iff_eq.mpr hr)]
        · rw [if_neg hr, if_neg (by simpa using hr)]
    · exact absurd rfl hn
  · exact absurd rfl hn
theorem cut_14 {a : Str} {ws : List Str} : M.cutL (a :: ws) (some 1) (some 4) = ws.take 3 := by
  unfold M.cutL
  have h1 : HT.sIx (a :: ws).length 0 (some 1) = min 1 (a :: ws).length := HT.sIx_nat _ 0 1
  have h2 : HT.sIx (a :: ws).length (a :: ws).length (some 4) = min 4 (a :: ws).length := HT.sIx_nat _ _ 4
  rw [h1, h2]
  have h3 : min 1 (a :: ws).length = 1 := by simp
  rw [h3, List.drop_succ_cons, List.drop_zero]
  by_cases hl : 3 ≤ ws.length
  · have : min 4 (a :: ws).length - 1 = 3 := by simp; omega
    rw [this]
  · have : min 4 (a :: ws).length - 1 = ws.length := by simp; omega
    rw [this, List.take_of_length_le (Nat.le_refl _), List.take_of_length_le (by omega)]
theorem cut_up {α : Type} {l : List α} (k : Nat) : M.cutL l (some (k : Int)) none = l.drop k := by
  unfold M.cutL
  rw [HT.sIx_nat, HT.sIx_none]
  by_cases hl : k ≤ l.length
  · rw [Nat.min_eq_left hl]
    exact List.take_of_length_le (by simp)
  · rw [Nat.min_eq_right (by omega), List.drop_of_length_le (Nat.le_refl _), List.drop_of_length_le (by omega)]
    simp
theorem put_none {deed : Str} {pl mo : PyData} (h : M.putClause deed pl mo ≠ .none) : pl ≠ .none ∧ mo ≠ .none := by
  constructor
  · rintro rfl
    exact h rfl
  · rintro rfl
    apply h
    unfold M.putClause
    split <;> rfl
theorem ends_words (x : G.Part) : (M.strI x.over) = M.strI x.over := rfl
/-- whatever is read as a clause is the text of one -/
theorem clause_back {s : Str} (hn : M.readClause s ≠ .none) : ∃ x, PartGood x ∧ s = G.clause x ∧ M.readClause s = clauseOf x := by
  have fin : ∀ x : G.Part, PartGood x → Txt.split s " " = wordsOf x → ∃ x, PartGood x ∧ s = G.clause x ∧ M.readClause s = clauseOf x := fun x hg e => by
    have hs : s = G.clause x := by
      rw [clause_words, ← e]
      exact (join_split (t := sp) (by rw [sp_tl]; simp) sp_256).symm
    exact ⟨x, hg, hs, by rw [hs]; exact clause_read hg⟩
  unfold M.readClause at hn
  generalize hw : Txt.split s " " = ws at *
  split at hn
  · exact absurd rfl hn
  · rename_i deed ws
    split at hn
    · rename_i hd
      obtain ⟨h1, h2⟩ := put_none hn
      obtain ⟨e, d, e0, ed, d1, d3, _, ew⟩ := class_inv rfl h1
      obtain ⟨sd, n, hs, n1, n4, ew2, _⟩ := way_inv rfl h2
      rw [cut_14] at ew
      rw [show M.cutL _ (some (4 : Int)) none = _ from cut_up 4] at ew2
      have hl : ws = [M.strI e, "of", M.strI d, sd, M.strI n] := by
        have := List.take_append_drop 3 ws
        have e2 : (deed :: ws).drop 4 = ws.drop 3 := rfl
        rw [e2] at ew2
        rw [ew, ew2] at this
        exact this.symm
      have hdd := M.inS2 hd
      refine fin ⟨deed, e, d, sd, n, Str.empty⟩ ⟨⟨d1, d3⟩, ⟨e0, ed⟩, .inr (.inr ⟨hdd, hs, n1, n4, rfl⟩)⟩ ?_
      rw [hl]
      show _ = wordsOf _
      unfold wordsOf
      rw [if_neg (by rcases hdd with h | h <;> (show ¬ deed = _; rw [h]; decide +kernel)), if_neg (by rcases hdd with h | h <;> (show ¬ deed = _; rw [h]; decide +kernel))]
    · split at hn
      · rename_i hc
        have hc' : deed = "clear" := beq_iff_eq.mp hc
        obtain ⟨h1, _⟩ := put_none hn
        obtain ⟨e, d, e0, ed, d1, d3, _, ew⟩ := class_inv rfl h1
        rw [show M.cutL _ (some (1 : Int)) none = _ from cut_up 1] at ew
        have hl : ws = [M.strI e, "of", M.strI d] := ew
        refine fin ⟨"clear", e, d, Str.empty, 0, Str.empty⟩ ⟨⟨d1, d3⟩, ⟨e0, ed⟩, .inr (.inl ⟨rfl, rfl, rfl, rfl⟩)⟩ ?_
        rw [hl, hc']
        show _ = wordsOf _
        unfold wordsOf
        rw [if_neg (by show ¬ ("clear" : Str) = _; decide +kernel), if_pos rfl]
      · split at hn
        · rename_i hc
          have hc' : deed = "call" := beq_iff_eq.mp hc
          split at hn
          · rename_i a nm o x y z heq
            split at hn
            · rename_i hno
              rw [Bool.and_eq_true] at hno
              obtain ⟨hnm, ho⟩ := hno
              have ho' : o = "on" := beq_iff_eq.mp ho
              obtain ⟨h1, _⟩ := put_none hn
              obtain ⟨e, d, e0, ed, d1, d3, _, ew⟩ := class_inv rfl h1
              rw [show M.cutL _ (some (3 : Int)) none = _ from cut_up 3] at ew
              have ew' : [x, y, z] = [M.strI e, "of", M.strI d] := ew
              simp only [List.cons.injEq, and_true] at ew'
              obtain ⟨rfl, rfl, rfl⟩ := ew'
              refine fin ⟨"call", e, d, Str.empty, 0, nm⟩ ⟨⟨d1, d3⟩, ⟨e0, ed⟩, .inl ⟨rfl, hnm, rfl, rfl⟩⟩ ?_
              have ha : a = "call" := by
                have := heq
                injection this with q1 q2
                rw [← q1, hc']
              rw [heq, ha, ho']
              show _ = wordsOf _
              unfold wordsOf
              rw [if_pos rfl]
            · exact absurd rfl hn
          · exact absurd rfl hn
        · exact absurd rfl hn
/-- whatever is read as a round is the text of clauses -/
theorem round_back {s : Str} (hn : isNone (M.readRound (.str s)) = false) : ∃ xs : List G.Part, xs ≠ [] ∧ xs.length ≤ 3 ∧ (∀ x ∈ xs, PartGood x) ∧ s = G.line xs ∧ M.readRound (.str s) = .tuple (xs.map clauseOf) ∧ M.fit (xs.map clauseOf) = true := by
  have h0 : M.readRound (.str s) ≠ .none := fun z => by rw [z] at hn; cases hn
  have e0 : M.readRound (.str s) = (if ((Txt.split s "; ").map M.readClause).length > 3 then .none else if ((Txt.split s "; ").map M.readClause).any isNone then .none else if M.fit ((Txt.split s "; ").map M.readClause) then .tuple ((Txt.split s "; ").map M.readClause) else .none) := rfl
  rw [e0] at h0 ⊢
  split at h0
  · exact absurd rfl h0
  · rename_i hl
    split at h0
    · exact absurd rfl h0
    · rename_i ha
      split at h0
      · rename_i hf
        have hall : ∀ y ∈ Txt.split s "; ", ∃ x, PartGood x ∧ y = G.clause x ∧ M.readClause y = clauseOf x := fun y hy => by
          refine clause_back fun z => ha ?_
          rw [List.any_eq_true]
          exact ⟨_, List.mem_map.mpr ⟨y, hy, rfl⟩, by rw [z]; rfl⟩
        have hex : ∀ l : List Str, (∀ y ∈ l, ∃ x, PartGood x ∧ y = G.clause x ∧ M.readClause y = clauseOf x) → ∃ xs : List G.Part, (∀ x ∈ xs, PartGood x) ∧ l = xs.map G.clause ∧ l.map M.readClause = xs.map clauseOf := by
          intro l
          induction l with
          | nil => exact fun _ => ⟨[], fun x hx => absurd hx (by simp), rfl, rfl⟩
          | cons y l ih =>
            intro h
            obtain ⟨xs, g1, g2, g3⟩ := ih fun z hz => h z (List.mem_cons_of_mem _ hz)
            obtain ⟨x, q1, q2, q3⟩ := h y List.mem_cons_self
            refine ⟨x :: xs, fun z hz => ?_, by rw [List.map_cons, ← q2, ← g2], by rw [List.map_cons, List.map_cons, q3, g3]⟩
            rcases List.mem_cons.mp hz with rfl | hz
            · exact q1
            · exact g1 z hz
        obtain ⟨xs, g1, g2, g3⟩ := hex _ hall
        rw [g3] at hl ha hf ⊢
        refine ⟨xs, fun z => ?_, by simpa using hl, g1, ?_, ?_, hf⟩
        · subst z
          obtain ⟨p, ps, e⟩ := M.split_ne s "; " (by decide +kernel) (by decide +kernel)
          rw [e] at g2
          cases g2
        · show s = Txt.join "; " (xs.map G.clause)
          rw [← g2]
          exact (join_split (by decide +kernel) (by decide +kernel)).symm
        · rw [if_neg hl, if_neg ha, if_pos hf]
      · exact absurd rfl h0
end N
/-! P7: equal books. -/
namespace M
open PySem J L2
variable [KC]
theorem eqvAll_self : ∀ (xs : List PyData), PyData.canLayAll0 xs = true → PyData.eqvAll xs xs = true
  | [], _ => rfl
  | x :: xs, h => by
    simp only [PyData.canLayAll0, Bool.and_eq_true] at h
    simp only [PyData.eqvAll, Bool.and_eq_true]
    exact ⟨SeqAt.eqv_refl x h.1, eqvAll_self xs h.2⟩
theorem eqvAll_swap : ∀ (xs : List PyData) (i : Nat) (x y : PyData), PyData.canLayAll0 xs = true → xs[i]? = some x → PyData.eqvAll (swap xs i y) xs = PyData.eqv y x
  | [], i, x, y, _, h => by simp at h
  | z :: xs, 0, x, y, hc, h => by
    simp only [PyData.canLayAll0, Bool.and_eq_true] at hc
    have e : z = x := by simpa using h
    subst e
    show PyData.eqvAll (y :: xs) (z :: xs) = _
    simp only [PyData.eqvAll, eqvAll_self xs hc.2, Bool.and_true]
  | z :: xs, i + 1, x, y, hc, h => by
    simp only [PyData.canLayAll0, Bool.and_eq_true] at hc
    have := eqvAll_swap xs i x y hc.2 (by simpa using h)
    show PyData.eqvAll (z :: swap xs i y) (z :: xs) = _
    simp only [PyData.eqvAll, SeqAt.eqv_refl z hc.1, Bool.true_and]
    exact this
end M
namespace J
open PySem PySem.Spec
open PyProof.Rows L2
variable [KC]
section
variable {w : World} {P : Program} {K : PySem.W.Frag} {base : Heap} {mg : Str → Option Value} {C : Addr}
theorem scEq : FnScope ["self", "other"] ["self", "other"] (defScope sEq) := ⟨rfl, rfl, rfl, by decide +kernel, rfl, by decide +kernel, by decide +kernel⟩
def cnEq (C : Addr) : Con := fun rs μ r μ' => ∃ ps qs, rs = [bookE C ps, bookE C qs] ∧ (SeqAt.shaped (.tuple ps) = true ∧ SeqAt.shaped (.tuple qs) = true) ∧ r = Bb (PyData.eqv (.tuple ps) (.tuple qs)) ∧ μ' = μ
theorem okEq {f : Addr} {fd : FuncData} (T : Bt mg) (F : Fun K "__eq__" "Book.__eq__" sEq f fd) (B : Kl K C) (hm : mg "Book" = some (.ref C)) (I : C8.InsC K C) : FnOk P w K mg base CX0 1 f fd ["self", "other"] (SpV K ["self", "other"] (cnEq C)) := by
  refine fn_mk F scEq (by decide) (fun rs μ r μ' h => by obtain ⟨_, _, rfl, _, _, rfl⟩ := h; exact ⟨rfl, rfl⟩) fun cdv A outer s H E hr rs μ r μ' hC => ?_
  obtain ⟨ps, qs, rfl, ⟨h1, h2⟩, rfl, rfl⟩ := hC
  exact ST.retP (EV.andD (EV.isC I T.isinstance hm (nm 1)) fun _ => EV.one (cEqD hr.units (EV.fld (nm 0) B.cl B.nK rfl) (EV.fld (nm 1) B.cl B.nK rfl) h1 h2)) rfl
end
end J
/-! P8: texts of books read. -/
namespace M
open PySem J L2
variable [KC]
def readHead (head : Str) : Str × Str × Str := ((Txt.partition (Txt.rpartition head " base ").1 " ").1, (Txt.partition (Txt.rpartition head " base ").1 " ").2.2, (Txt.rpartition head " base ").2.2)
def readPlan (s : Str) : PyData := match Txt.split s "\n" with
  | [] => .none
  | head :: rs => .tuple [.str (readHead head).1, .str (readHead head).2.1, readDigit (readHead head).2.2 1 4, .tuple (rs.map .str)]
def readPlans (s : Str) : List PyData := match Txt.split (("\n" : Str) ++ s) "\nplan " with
  | [] => []
  | ahead :: parts => if ahead == "" then parts.map readPlan else []
theorem nl_ne : TL.tl "\n" ≠ [] := by decide +kernel
theorem nl_256 : (TL.tl "\n").all (· < 256) = true := by decide +kernel
theorem np_ne : TL.tl "\nplan " ≠ [] := by decide +kernel
theorem np_256 : (TL.tl "\nplan ").all (· < 256) = true := by decide +kernel
theorem spl_many : ∀ (S : List Nat) (k : Nat) (acc l : List Nat), (TL.spl S k acc l).length ≤ l.length + 1 := by
  intro S k acc l
  induction l generalizing k acc with
  | nil => rw [TL.spl_nil]; simp
  | cons c r ih =>
    cases k with
    | zero =>
      unfold TL.spl
      split
      · have := ih (S.length - 1) []
        simp
        omega
      · have := ih 0 (acc ++ [c])
        simp
        omega
    | succ k =>
      unfold TL.spl
      have := ih k acc
      simp
      omega
theorem split_many (s t : Str) (h1 : TL.tl t ≠ []) (h2 : (TL.tl t).all (· < 256) = true) : (Txt.split s t).length ≤ s.length + 1 := by
  rw [split_list s t h1 h2, List.length_map]
  have := spl_many (TL.tl t) 0 [] (TL.tl s)
  rwa [← TL.len_tl] at this
theorem rpart_len (s t : Str) : (Txt.rpartition s t).1.length ≤ s.length ∧ (Txt.rpartition s t).2.2.length ≤ s.length := by
  unfold Txt.rpartition
  have hs : ∀ i j, (Builtin.Str.strSub s i j).length ≤ s.length := fun i j => strSub_length_le ..
  split
  · exact ⟨hs _ _, hs _ _⟩
  · exact ⟨Nat.zero_le _, Nat.le_refl _⟩
end M
namespace J
open PySem PySem.Spec
open PyProof.Rows L2
variable [KC]
section
variable {w : World} {P : Program} {K : PySem.W.Frag} {base : Heap} {mg : Str → Option Value} {C : Addr}
abbrev nRP : List Str := ["text", "head", "rounds", "start", "word", "base", "name", "blank", "goal"]
theorem scReadPlan : FnScope nRP ["text"] (defScope sReadPlan) := ⟨rfl, rfl, rfl, by decide +kernel, rfl, by decide +kernel, by decide +kernel⟩
def cnReadPlan : Con := fun rs μ r μ' => ∃ s, rs = [Ss s] ∧ s.length ≤ 900000 ∧ r = .dat (M.readPlan s) ∧ μ' = μ
theorem cReadPlan (T : Gf mg) (C1 : Cal P w K mg base "read_digit" 1 ["word", "low", "high"] cnReadDigit) (D : Df K mg "read_plan" sReadPlan) : Cal P w K mg base "read_plan" 2 ["text"] cnReadPlan := by
  refine D.cal scReadPlan (fun _ _ _ _ _ _ us hl => match us, hl with | [_], _ => rfl) (by decide) (fun rs μ r μ' h => by obtain ⟨_, _, _, _, rfl⟩ := h; rfl) fun f cdv A outer s0 H E hr rs μ r μ' hC => ?_
  obtain ⟨s, rfl, hs, rfl, rfl⟩ := hC
  have hm := M.split_many s "\n" M.nl_ne M.nl_256
  have hl := M.split_len s "\n" M.nl_ne M.nl_256
  obtain ⟨head, rds, e⟩ := M.split_ne s "\n" M.nl_ne M.nl_256
  have hsp : (EV (cxOf CX0 P w K mg base nRP "read_plan" (defScope sReadPlan) f cdv A outer s0 H E).nox) = (EV (cxOf CX0 P w K mg base nRP "read_plan" (defScope sReadPlan) f cdv A outer s0 H E).nox) := rfl
  have hhd : head.length ≤ 900000 := Nat.le_trans (hl head (by rw [e]; exact List.mem_cons_self)) hs
  rw [e] at hm
  have em : M.readPlan s = .tuple [.str (M.readHead head).1, .str (M.readHead head).2.1, M.readDigit (M.readHead head).2.2 1 4, .tuple (rds.map .str)] := by
    unfold M.readPlan
    rw [e]
  rw [em]
  obtain ⟨r1, r2⟩ := M.rpart_len head " base "
  refine ST.asgW (d := .list (.str head :: rds.map .str)) (EV.eq (EV.split (nm 0) EV.str (by decide +kernel) (sz2 (by omega))) (by rw [e]; rfl)) (GW.star (GW.name (i := 1) scReadPlan.nd rfl (Or.inl rfl)) (GW.name (i := 2) scReadPlan.nd rfl (Or.inl rfl))) ?_
  refine ST.asg (is := [3, 4, 5]) (EV.rpart (nm 1) EV.str (by decide +kernel) (sz (by omega))) (GV.tup (GsV.cons (GV.name (i := 3) scReadPlan.nd rfl (Or.inl rfl) (by simp)) (GsV.cons (GV.name (i := 4) scReadPlan.nd rfl (Or.inl rfl) (by simp)) (GsV.cons (GV.name (i := 5) scReadPlan.nd rfl (Or.inl rfl) (by simp)) GsV.nil)))) ?_
  refine ST.asg (is := [6, 7, 8]) (EV.partition (nm 3) EV.str (by decide +kernel) (sz (by omega))) (GV.tup (GsV.cons (GV.name (i := 6) scReadPlan.nd rfl (Or.inl rfl) (by simp)) (GsV.cons (GV.name (i := 7) scReadPlan.nd rfl (Or.inl rfl) (by simp)) (GsV.cons (GV.name (i := 8) scReadPlan.nd rfl (Or.inl rfl) (by simp)) GsV.nil)))) ?_
  exact ST.retP (EV.tup (ds := [.str (M.readHead head).1, .str (M.readHead head).2.1, M.readDigit (M.readHead head).2.2 1 4, .tuple (rds.map .str)]) (AV.cons (nm 6) (AV.cons (nm 8) (AV.cons (EV.call C1 hr (AV.cons (nm 5) (AV.cons EV.int (AV.cons (gI T.mbase) AV.nil))) ⟨_, 1, 4, rfl, by decide, rfl, rfl⟩) (AV.cons (bTupL T.bt (nm 2)) AV.nil))))) rfl
abbrev nRPs : List Str := ["text", "ahead", "parts", "part"]
theorem scReadPlans : FnScope nRPs ["text"] (defScope sReadPlans) := ⟨rfl, rfl, rfl, by decide +kernel, rfl, by decide +kernel, by decide +kernel⟩
def cnReadPlans : Con := fun rs μ r μ' => ∃ s, rs = [Ss s] ∧ s.length ≤ 90000 ∧ r = Tp (M.readPlans s) ∧ μ' = μ
def rpF : PyData → PyData
  | .str s => M.readPlan s
  | d => d
theorem cReadPlans (T : Gf mg) (C1 : Cal P w K mg base "read_plan" 2 ["text"] cnReadPlan) (D : Df K mg "read_plans" sReadPlans) : Cal P w K mg base "read_plans" 3 ["text"] cnReadPlans := by
  refine D.cal scReadPlans (fun _ _ _ _ _ _ us hl => match us, hl with | [_], _ => rfl) (by decide) (fun rs μ r μ' h => by obtain ⟨_, _, _, _, rfl⟩ := h; rfl) fun f cdv A outer s0 H E hr rs μ r μ' hC => ?_
  obtain ⟨s, rfl, hs, rfl, rfl⟩ := hC
  have h0 : ((("\n" : Str) ++ s).length) = 1 + s.length := strLen_append _ _
  have hm := M.split_many (("\n" : Str) ++ s) "\nplan " M.np_ne M.np_256
  have hl := M.split_len (("\n" : Str) ++ s) "\nplan " M.np_ne M.np_256
  obtain ⟨ahead, parts, e⟩ := M.split_ne (("\n" : Str) ++ s) "\nplan " M.np_ne M.np_256
  rw [e] at hm
  have hpl : parts.length ≤ 90001 := by simp at hm; omega
  have em : M.readPlans s = if ahead == "" then parts.map M.readPlan else [] := by
    unfold M.readPlans
    rw [e]
  rw [em]
  refine ST.asgW (d := .list (.str ahead :: parts.map .str)) (EV.eq (EV.split (oAddS EV.str (nm 0) (by have : (("\n" : Str)).length = 1 := rfl; exact sz (by omega))) EV.str (by decide +kernel) (sz2 (by omega))) (by rw [e]; rfl)) (GW.star (GW.name (i := 1) scReadPlans.nd rfl (Or.inl rfl)) (GW.name (i := 2) scReadPlans.nd rfl (Or.inl rfl))) ?_
  have he : eqS (.str ahead) (.str "") = (ahead == "") := rfl
  cases ha : (ahead == "") with
  | false => exact ST.ifYes (tNe (nm 1) EV.str) (by rw [he, ha]; rfl) (ST.retP (EV.tup (ds := []) AV.nil) rfl)
  | true =>
    refine ST.ifNo (tNe (nm 1) EV.str) (by rw [he, ha]; rfl) ?_
    refine ST.retP (bTupL T.bt (EV.eq (LCV.evf (own := [("part", 3)]) (LCV.map rpF (IV.lst (nm 2)) (fun x hx => ?_) (by rw [List.length_map]; omega)) rfl scReadPlans.nd (blkOk_by (N := nRPs) (sc := defScope sReadPlans) (by decide +kernel))).ev (z' := Ls (parts.map M.readPlan)) (by rw [List.map_map]; rfl))) rfl
    obtain ⟨y, hy, rfl⟩ := List.mem_map.mp hx
    have hyl := hl y (by rw [e]; exact List.mem_cons_of_mem _ hy)
    exact ⟨_, fun _ _ _ _ _ => GV.name (i := 3) scReadPlans.nd rfl (by first | exact Or.inl rfl | exact Or.inr rfl) (by simp), fun _ _ _ _ _ => EV.call C1 hr (AV.cons (nm 3) AV.nil) ⟨y, rfl, by omega, rfl, rfl⟩⟩
theorem scRead : FnScope ["cls", "text"] ["cls", "text"] (defScope sRead) := ⟨rfl, rfl, rfl, by decide +kernel, rfl, by decide +kernel, by decide +kernel⟩
def cnRead (C : Addr) : Con := fun rs μ r μ' => ∃ s, rs = [.raw (.ref C), Ss s] ∧ (s.length ≤ 90000 ∧ M.Good (M.readPlans s)) ∧ r = bookE C (M.readPlans s) ∧ μ' = μ
theorem okRead {f : Addr} {fd : FuncData} (T : Bt mg) (F : Fun K "read" "Book.read" sRead f fd) (N3 : Mak P w K mg base "Book" C "kept" 8 ["self", "plans"] M.Good) (C1 : Cal P w K mg base "read_plans" 3 ["text"] cnReadPlans) : FnOk P w K mg base CX0 10 f fd ["cls", "text"] (SpV K ["cls", "text"] (cnRead C)) := by
  refine fn_mk F scRead (by decide) (fun rs μ r μ' h => by obtain ⟨_, rfl, _, _, rfl⟩ := h; exact ⟨rfl, rfl⟩) fun cdv A outer s0 H E hr rs μ r μ' hC => ?_
  obtain ⟨s, rfl, ⟨hs, hG⟩, rfl, rfl⟩ := hC
  refine ST.ifNo (TV.not (TV.val (isI T (nm 1) (kit_str _) (by decide +kernel) T.str))) rfl ?_
  refine ST.thru ?_ (fun _ _ _ _ z => z)
  exact ST.ret (EV.makeL (i := 0) N3 hr rfl (EV.call C1 (hr.mono (by decide)) (AV.cons (nm 1) AV.nil) ⟨s, rfl, hs, rfl, rfl⟩) hG) ⟨rfl, by simp⟩
end
end J
/-! N7: the text of a book is read as the book. -/
namespace N
open PySem J L2
variable [KC]
def Nl (s : Str) : Prop := 10 ∉ TL.tl s
theorem nl_name {s : Str} (h : M.nameOk s = true) : Nl s := fun z => by have := (name_free h 10 z).1; omega
theorem nl_dig {i : Int} (h0 : 0 ≤ i) (h9 : i ≤ 9) : Nl (M.strI i) := fun z => by have := dig_free h0 h9 10 z; omega
theorem words_nl {x : G.Part} (h : PartGood x) : ∀ y ∈ wordsOf x, Nl y := by
  have p1 := nl_dig (i := x.over) (by have := h.o; omega) (by have := h.o; have := h.b; omega)
  have p2 := nl_dig (i := x.by_) (by have := h.b; omega) (by have := h.b; omega)
  have q1 : Nl "call" := by unfold Nl; decide +kernel
  have q2 : Nl "on" := by unfold Nl; decide +kernel
  have q3 : Nl "of" := by unfold Nl; decide +kernel
  have q4 : Nl "clear" := by unfold Nl; decide +kernel
  have q5 : Nl "join" := by unfold Nl; decide +kernel
  have q6 : Nl "take" := by unfold Nl; decide +kernel
  have q7 : Nl "left" := by unfold Nl; decide +kernel
  have q8 : Nl "right" := by unfold Nl; decide +kernel
  unfold wordsOf
  rcases h.k with ⟨hw, hn, _, _⟩ | ⟨hw, _⟩ | ⟨hw, hs, f1, f4, _⟩
  · rw [if_pos hw]
    have p3 := nl_name hn
    intro y hy
    simp only [List.mem_cons, List.not_mem_nil, or_false] at hy
    rcases hy with rfl | rfl | rfl | rfl | rfl | rfl <;> assumption
  · rw [if_neg (by rw [hw]; decide +kernel), if_pos hw]
    intro y hy
    simp only [List.mem_cons, List.not_mem_nil, or_false] at hy
    rcases hy with rfl | rfl | rfl | rfl <;> assumption
  · rw [if_neg (by rcases hw with hw | hw <;> rw [hw] <;> decide +kernel), if_neg (by rcases hw with hw | hw <;> rw [hw] <;> decide +kernel)]
    have p3 := nl_dig (i := x.far) (by omega) (by omega)
    have p4 : Nl x.word := by rcases hw with hw | hw <;> rw [hw] <;> assumption
    have p5 : Nl x.side := by rcases hs with hs | hs <;> rw [hs] <;> assumption
    intro y hy
    simp only [List.mem_cons, List.not_mem_nil, or_false] at hy
    rcases hy with rfl | rfl | rfl | rfl | rfl | rfl <;> assumption
theorem clause_nl {x : G.Part} (h : PartGood x) : Nl (G.clause x) := by
  rw [clause_words]
  intro z
  rcases join_mem z with z | ⟨y, hy, z⟩
  · rw [sp_tl] at z; simp at z
  · exact words_nl h y hy z
theorem line_nl {xs : List G.Part} (h : ∀ x ∈ xs, PartGood x) : Nl (G.line xs) := by
  intro z
  rcases join_mem (show 10 ∈ TL.tl (Txt.join "; " (xs.map G.clause)) from z) with z | ⟨y, hy, z⟩
  · exact absurd z (by decide +kernel)
  · obtain ⟨x, hx, rfl⟩ := List.mem_map.mp hy
    exact clause_nl (h x hx) z
theorem tl_joinT (y : Str) (parts : List Str) : TL.tl (Txt.join y parts) = TL.joinL (TL.tl y) (parts.map TL.tl) := by
  have e1 : y = SX.S (TL.tl y) := (M.S_of_tl y).symm
  have e2 : parts = (parts.map TL.tl).map SX.S := by
    rw [List.map_map]
    have : parts.map (SX.S ∘ TL.tl) = parts.map id := List.map_congr_left fun z _ => M.S_of_tl z
    rw [this, List.map_id]
  have := SX.join_S (TL.tl y) (parts.map TL.tl)
  rw [← e2, ← e1] at this
  exact congrArg TL.tl this
theorem join_head (sep w : Str) (ws : List Str) : ∃ r, TL.tl (Txt.join sep (w :: ws)) = TL.tl w ++ r := by
  rw [tl_joinT]
  cases ws with
  | nil => exact ⟨[], by simp [TL.joinL]⟩
  | cons v vs => exact ⟨_, rfl⟩
theorem clause_head {x : G.Part} (h : PartGood x) : ∃ c r, TL.tl (G.clause x) = c :: r ∧ c ≠ 112 := by
  have hw : ∃ ws, wordsOf x = x.word :: ws := by
    unfold wordsOf
    split
    · rename_i e; exact ⟨_, by rw [e]⟩
    · split
      · rename_i e; exact ⟨_, by rw [e]⟩
      · exact ⟨_, rfl⟩
  obtain ⟨ws, e⟩ := hw
  rw [clause_words, e]
  obtain ⟨r, er⟩ := join_head sp x.word ws
  rw [er]
  have h4 : x.word = "call" ∨ x.word = "clear" ∨ x.word = "join" ∨ x.word = "take" := by
    rcases h.k with ⟨hw, _⟩ | ⟨hw, _⟩ | ⟨hw | hw, _⟩
    · exact .inl hw
    · exact .inr (.inl hw)
    · exact .inr (.inr (.inl hw))
    · exact .inr (.inr (.inr hw))
  rcases h4 with h | h | h | h <;> rw [h]
  · exact ⟨99, 97 :: 108 :: 108 :: r, rfl, by decide⟩
  · exact ⟨99, 108 :: 101 :: 97 :: 114 :: r, rfl, by decide⟩
  · exact ⟨106, 111 :: 105 :: 110 :: r, rfl, by decide⟩
  · exact ⟨116, 97 :: 107 :: 101 :: r, rfl, by decide⟩
theorem line_head {xs : List G.Part} (hne : xs ≠ []) (h : ∀ x ∈ xs, PartGood x) : ∃ c r, TL.tl (G.line xs) = c :: r ∧ c ≠ 112 := by
  cases xs with
  | nil => exact absurd rfl hne
  | cons x xs =>
    obtain ⟨c, r, e, hc⟩ := clause_head (h x List.mem_cons_self)
    obtain ⟨q, eq⟩ := join_head "; " (G.clause x) (xs.map G.clause)
    refine ⟨c, r ++ q, ?_, hc⟩
    show TL.tl (Txt.join "; " (G.clause x :: xs.map G.clause)) = _
    rw [eq, e]
    rfl
/-- the line of a plan, its word ahead left away -/
def headB (n g : Str) (b : Int) : Str := n ++ " " ++ g ++ " base " ++ M.strI b
theorem goal_words {g : Str} (h : M.isGoal (.str g) = true) : g = "all" ∨ g = "before" ∨ g = "last 1" ∨ g = "last 2" ∨ g = "last 3" ∨ g = "last 4" := by
  have h' : inD (.str g) ([.str "all", .str "before"] ++ M.lasts) = true := h
  unfold inD M.lasts at h'
  simp only [List.cons_append, List.nil_append, List.any_cons, List.any_nil, Bool.or_false, Bool.or_eq_true, eqF, beq_iff_eq] at h'
  rcases h' with h | h | h | h | h | h
  · exact .inl h.symm
  · exact .inr (.inl h.symm)
  · exact .inr (.inr (.inl h.symm))
  · exact .inr (.inr (.inr (.inl h.symm)))
  · exact .inr (.inr (.inr (.inr (.inl h.symm))))
  · exact .inr (.inr (.inr (.inr (.inr h.symm))))
theorem nl_goal {g : Str} (h : M.isGoal (.str g) = true) : Nl g := by
  unfold Nl
  rcases goal_words h with rfl | rfl | rfl | rfl | rfl | rfl <;> decide +kernel
theorem nl_app {a b : Str} (ha : Nl a) (hb : Nl b) : Nl (a ++ b) := fun z => by
  rw [TL.tl_append] at z
  rcases List.mem_append.mp z with z | z
  · exact ha z
  · exact hb z
theorem nl_head {n g : Str} {b : Int} (hn : M.nameOk n = true) (hg : M.isGoal (.str g) = true) (b1 : 1 ≤ b) (b4 : b ≤ 4) : Nl (headB n g b) :=
  nl_app (nl_app (nl_app (nl_app (nl_name hn) (by unfold Nl; decide +kernel)) (nl_goal hg)) (by unfold Nl; decide +kernel)) (nl_dig (by omega) (by omega))
theorem rpart_at (a b : Str) (h : b.length = 1) : Txt.rpartition (a ++ " base " ++ b) " base " = (a, (" base " : Str), b) := by
  have hb : ∃ c, TL.tl b = [c] := by
    have := TL.len_tl b
    rw [h] at this
    match q : TL.tl b, this with
    | [c], _ => exact ⟨c, rfl⟩
  obtain ⟨c, hc⟩ := hb
  have hS : TL.tl " base " = [32, 98, 97, 115, 101, 32] := by decide +kernel
  have hne : TL.tl " base " ≠ [] := by rw [hS]; simp
  have ex : TL.tl (a ++ " base " ++ b) = TL.tl a ++ [32, 98, 97, 115, 101, 32, c] := by
    rw [TL.tl_append, TL.tl_append, hS, hc, List.append_assoc]
    rfl
  have at0 : StrLaws.At (a ++ " base " ++ b) " base " (a ++ " base " ++ b).length (TL.tl a).length := by
    rw [TL.at_iff hne, ex, List.drop_left, hS]
    rfl
  have last : Builtin.Str.lastOccurrence (a ++ " base " ++ b) " base " 0 (a ++ " base " ++ b).length = some (TL.tl a).length := by
    rcases StrLaws.last_spec (a ++ " base " ++ b) " base " with ⟨_, hno⟩ | ⟨i, e, hi, hk⟩
    · exact absurd at0 (hno _)
    · rw [e]
      congr 1
      by_cases h1 : i < (TL.tl a).length
      · exact absurd at0 (hk _ h1)
      · by_cases h2 : i = (TL.tl a).length
        · exact h2
        · exfalso
          have hi' := hi
          rw [TL.at_iff hne, ex, hS] at hi'
          obtain ⟨k, rfl⟩ : ∃ k, i = (TL.tl a).length + (k + 1) := ⟨i - (TL.tl a).length - 1, by omega⟩
          rw [List.drop_append] at hi'
          have z : (TL.tl a).drop ((TL.tl a).length + (k + 1)) = [] := List.drop_of_length_le (by omega)
          rw [z, List.nil_append] at hi'
          have z2 : (TL.tl a).length + (k + 1) - (TL.tl a).length = k + 1 := by omega
          rw [z2] at hi'
          match k with
          | 0 => exact absurd hi' (by simp [TL.pre])
          | 1 => exact absurd hi' (by simp [TL.pre])
          | 2 => exact absurd hi' (by simp [TL.pre])
          | 3 => exact absurd hi' (by simp [TL.pre])
          | 4 => exact absurd hi' (by simp [TL.pre])
          | 5 => exact absurd hi' (by simp [TL.pre])
          | k + 6 => exact absurd hi' (by simp [TL.pre])
  unfold Txt.rpartition
  rw [last]
  dsimp only
  have e1 : Builtin.Str.strSub (a ++ " base " ++ b) 0 (TL.tl a).length = a := by
    refine TL.ext_tl ?_
    rw [TL.tl_strSub, ex]
    simp
  have e2 : Builtin.Str.strSub (a ++ " base " ++ b) ((TL.tl a).length + (" base " : Str).length) (a ++ " base " ++ b).length = b := by
    refine TL.ext_tl ?_
    rw [TL.tl_strSub_end, ex, hc]
    have : (" base " : Str).length = 6 := rfl
    rw [this, List.drop_append]
    simp
  rw [e1, e2]
theorem head_read {n g : Str} {b : Int} (hn : M.nameOk n = true) (b1 : 1 ≤ b) (b4 : b ≤ 4) : M.readHead (headB n g b) = (n, g, M.strI b) := by
  unfold M.readHead headB
  rw [rpart_at _ _ (strI_len b (by omega) (by omega))]
  dsimp only
  rw [TL.partition_app (y := " ") (s := 32) (S := []) (by decide +kernel) (fun z => by have := (name_free hn 32 z).1; omega)]
theorem plan_read {n g : Str} {b : Int} {rs : List Str} (hn : M.nameOk n = true) (hg : M.isGoal (.str g) = true) (b1 : 1 ≤ b) (b4 : b ≤ 4) (hr : ∀ r ∈ rs, Nl r) : M.readPlan (Txt.join "\n" (headB n g b :: rs)) = .tuple [.str n, .str g, .int b, .tuple (rs.map .str)] := by
  unfold M.readPlan
  rw [split_join (sep := "\n") (c := 10) (r := []) (by decide +kernel) (by decide +kernel) (by simp) (fun y hy => by
    rcases List.mem_cons.mp hy with rfl | hy
    · exact nl_head hn hg b1 b4
    · exact hr y hy)]
  dsimp only
  rw [head_read hn b1 b4, dig_in (by decide) b1 b4 (by decide)]
/-- no line but the first begins with p -/
def NoP (l : List Nat) : Prop := ∀ i, l[i]? = some 10 → ∃ c, l[i + 1]? = some c ∧ c ≠ 112
theorem noP_line {l : List Nat} (h : 10 ∉ l) : NoP l := fun i e => absurd (List.mem_of_getElem? e) h
theorem noP_join : ∀ (p : List Nat) (ps : List (List Nat)), 10 ∉ p → (∀ q ∈ ps, 10 ∉ q ∧ ∃ c r, q = c :: r ∧ c ≠ 112) → NoP (TL.joinL [10] (p :: ps))
  | p, [], hp, _ => noP_line hp
  | p, q :: ps, hp, h => by
    obtain ⟨hq, c, r, eq, hc⟩ := h q List.mem_cons_self
    have ih := noP_join q ps hq fun z hz => h z (List.mem_cons_of_mem _ hz)
    have e : TL.joinL [10] (p :: q :: ps) = p ++ (10 :: TL.joinL [10] (q :: ps)) := rfl
    rw [e]
    intro i hi
    by_cases h1 : i < p.length
    · rw [List.getElem?_append_left h1] at hi
      exact absurd (List.mem_of_getElem? hi) hp
    · rw [List.getElem?_append_right (by omega)] at hi ⊢
      cases hk : i - p.length with
      | zero =>
        have e2 : i + 1 - p.length = 0 + 1 := by omega
        rw [e2, List.getElem?_cons_succ]
        obtain ⟨t, et⟩ : ∃ t, TL.joinL [10] (q :: ps) = q ++ t := by
          cases ps with
          | nil => exact ⟨[], by simp [TL.joinL]⟩
          | cons a b => exact ⟨_, rfl⟩
        refine ⟨c, ?_, hc⟩
        rw [et, eq]
        rfl
      | succ k =>
        rw [hk, List.getElem?_cons_succ] at hi
        obtain ⟨d, hd, hd2⟩ := ih k hi
        refine ⟨d, ?_, hd2⟩
        have e2 : i + 1 - p.length = (k + 1) + 1 := by omega
        rw [e2, List.getElem?_cons_succ]
        exact hd
def SP : List Nat := [10, 112, 108, 97, 110, 32]
theorem sp_np : TL.tl "\nplan " = SP := by decide +kernel
theorem noP_pre {l rest : List Nat} (h : NoP l) {i : Nat} (hi : i < l.length) : TL.pre SP ((l ++ rest).drop i) = false := by
  obtain ⟨c, e⟩ : ∃ c, l[i]? = some c := ⟨l[i], by simp [hi]⟩
  have e1 : (l ++ rest).drop i = c :: (l ++ rest).drop (i + 1) := by
    rw [List.drop_eq_getElem_cons (by simp; omega)]
    congr 1
    have := (List.getElem?_eq_some_iff.mp e).2
    rw [List.getElem_append_left hi]
    exact this
  rw [e1]
  by_cases hc : c = 10
  · subst hc
    obtain ⟨d, hd, hne⟩ := h i e
    have hil := (List.getElem?_eq_some_iff.mp hd).1
    have e2 : (l ++ rest).drop (i + 1) = d :: (l ++ rest).drop (i + 1 + 1) := by
      rw [List.drop_eq_getElem_cons (by simp; omega)]
      congr 1
      have := (List.getElem?_eq_some_iff.mp hd).2
      rw [List.getElem_append_left hil]
      exact this
    rw [e2]
    unfold TL.pre SP
    simp
    intro z
    exact absurd z hne
  · exact TL.pre_of_head _ _ hc
theorem spl_books : ∀ (b : List Nat) (bs : List (List Nat)), NoP b → (∀ x ∈ bs, NoP x) → TL.spl SP 0 [] (TL.joinL SP (b :: bs)) = b :: bs
  | b, [], h, _ => by
    have := TL.spl_last (S := SP) (p := b) (acc := []) fun i hi => by
      have := noP_pre (rest := []) h hi
      rwa [List.append_nil] at this
    exact this
  | b, x :: bs, h, hs => by
    have e : TL.joinL SP (b :: x :: bs) = b ++ (SP ++ TL.joinL SP (x :: bs)) := rfl
    rw [e, TL.spl_part (by unfold SP; simp) fun i hi => noP_pre h hi, spl_books x bs (hs x List.mem_cons_self) fun z hz => hs z (List.mem_cons_of_mem _ hz)]
    rfl
/-- the text of a plan behind its first word -/
def bodyOf : PyData → Str
  | .tuple [.str n, .str g, .int b, .tuple rs] => Txt.join "\n" (headB n g b :: rs.map M.strOf)
  | _ => Str.empty
theorem plan_body {p : PyData} (h : M.isPlan p = true) : M.planText p = "plan " ++ bodyOf p := by
  obtain ⟨n, g, b, rs, rfl, _⟩ := M.plan_shape h
  have e : M.headText n g b = "plan " ++ headB n g b := by
    show Str.empty ++ "plan " ++ n ++ " " ++ g ++ " base " ++ M.strI b = "plan " ++ (n ++ " " ++ g ++ " base " ++ M.strI b)
    refine TL.ext_tl ?_
    simp only [TL.tl_append, List.append_assoc]
    rfl
  show Txt.join "\n" (M.headText n g b :: rs.map M.strOf) = "plan " ++ Txt.join "\n" (headB n g b :: rs.map M.strOf)
  rw [e]
  cases rs.map M.strOf with
  | nil => rfl
  | cons v vs =>
    refine TL.ext_tl ?_
    rw [TL.tl_append, tl_joinT, tl_joinT]
    simp only [List.map_cons]
    show TL.tl ("plan " ++ headB n g b) ++ (TL.tl "\n" ++ TL.joinL (TL.tl "\n") (TL.tl v :: vs.map TL.tl)) = TL.tl "plan " ++ (TL.tl (headB n g b) ++ (TL.tl "\n" ++ TL.joinL (TL.tl "\n") (TL.tl v :: vs.map TL.tl)))
    rw [TL.tl_append, List.append_assoc]
theorem rounds_back {rs : List PyData} (h : M.areRounds (.tuple rs) = true) : ∀ x ∈ rs, ∃ xs : List G.Part, xs ≠ [] ∧ xs.length ≤ 3 ∧ (∀ y ∈ xs, PartGood y) ∧ x = .str (G.line xs) ∧ M.readRound x = .tuple (xs.map clauseOf) := by
  intro x hx
  obtain ⟨s, rfl⟩ := M.rounds_str h x hx
  have h2 : isNone (M.readRound (.str s)) = false := by
    unfold M.areRounds at h
    rw [Bool.and_eq_true] at h
    have := List.all_eq_true.mp h.2 _ hx
    simpa using this
  obtain ⟨xs, a, b, c, d, e, _⟩ := round_back h2
  exact ⟨xs, a, b, c, by rw [d], e⟩
theorem body_ok {p : PyData} (h : M.isPlan p = true) : NoP (TL.tl (bodyOf p)) ∧ M.readPlan (bodyOf p) = p := by
  obtain ⟨n, g, b, rs, rfl, hn, hg, b1, b4, hr⟩ := M.plan_shape h
  have hb := rounds_back hr
  have hrs : ∀ q ∈ rs.map M.strOf, Nl q ∧ ∃ c r, TL.tl q = c :: r ∧ c ≠ 112 := fun q hq => by
    obtain ⟨x, hx, rfl⟩ := List.mem_map.mp hq
    obtain ⟨xs, h1, h2, h3, rfl, _⟩ := hb x hx
    exact ⟨line_nl h3, line_head h1 h3⟩
  constructor
  · show NoP (TL.tl (Txt.join "\n" (headB n g b :: rs.map M.strOf)))
    rw [tl_joinT]
    have e : TL.tl "\n" = [10] := by decide +kernel
    rw [e, List.map_cons]
    refine noP_join _ _ (nl_head hn hg b1 b4) fun q hq => ?_
    obtain ⟨y, hy, rfl⟩ := List.mem_map.mp hq
    exact hrs y hy
  · show M.readPlan (Txt.join "\n" (headB n g b :: rs.map M.strOf)) = _
    rw [plan_read hn hg b1 b4 fun r hr' => (hrs r hr').1]
    congr 1
    have : (rs.map M.strOf).map PyData.str = rs := by
      rw [List.map_map]
      have : rs.map (PyData.str ∘ M.strOf) = rs.map id := List.map_congr_left fun x hx => by
        obtain ⟨s, rfl⟩ := M.rounds_str hr x hx
        rfl
      rw [this, List.map_id]
    rw [this]
theorem book_lines : ∀ (p : PyData) (ps : List PyData), (∀ x ∈ p :: ps, M.isPlan x = true) → TL.tl ("\n" ++ M.bookText (p :: ps)) = SP ++ TL.joinL SP ((p :: ps).map fun x => TL.tl (bodyOf x))
  | p, [], h => by
    show TL.tl ("\n" ++ M.planText p) = SP ++ TL.tl (bodyOf p)
    rw [plan_body (h p List.mem_cons_self), TL.tl_append, TL.tl_append, ← List.append_assoc]
    rfl
  | p, q :: ps, h => by
    have ih := book_lines q ps fun x hx => h x (List.mem_cons_of_mem _ hx)
    have e : TL.tl (M.bookText (p :: q :: ps)) = TL.tl (M.planText p) ++ (TL.tl "\n" ++ TL.tl (M.bookText (q :: ps))) := by
      show TL.tl (Txt.join "\n" (M.planText p :: M.planText q :: ps.map M.planText)) = _ ++ (_ ++ TL.tl (Txt.join "\n" (M.planText q :: ps.map M.planText)))
      rw [tl_joinT, tl_joinT]
      rfl
    rw [TL.tl_append, e, plan_body (h p List.mem_cons_self)]
    have e2 : TL.joinL SP ((p :: q :: ps).map fun x => TL.tl (bodyOf x)) = TL.tl (bodyOf p) ++ (SP ++ TL.joinL SP ((q :: ps).map fun x => TL.tl (bodyOf x))) := rfl
    rw [e2, ← ih]
    simp only [TL.tl_append, List.append_assoc]
    rw [← List.append_assoc]
    rfl
/-- the text of a book is read as its plans -/
theorem read_book {ps : List PyData} (hne : ps ≠ []) (h : ∀ x ∈ ps, M.isPlan x = true) : M.readPlans (M.bookText ps) = ps := by
  cases ps with
  | nil => exact absurd rfl hne
  | cons p ps =>
    unfold M.readPlans
    rw [M.split_list _ _ M.np_ne M.np_256, sp_np, book_lines p ps h]
    have e : TL.spl SP 0 [] (SP ++ TL.joinL SP ((p :: ps).map fun x => TL.tl (bodyOf x))) = [] :: (p :: ps).map fun x => TL.tl (bodyOf x) := by
      refine (spl_books [] ((p :: ps).map fun x => TL.tl (bodyOf x)) (fun i e => by simp at e) fun x hx => ?_)
      obtain ⟨y, hy, rfl⟩ := List.mem_map.mp hx
      exact (body_ok (h y hy)).1
    rw [e, List.map_cons]
    dsimp only
    rw [if_pos (by decide +kernel), List.map_map, List.map_map]
    have : (p :: ps).map ((M.readPlan ∘ SX.S) ∘ fun x => TL.tl (bodyOf x)) = (p :: ps).map id := List.map_congr_left fun x hx => by
      show M.readPlan (SX.S (TL.tl (bodyOf x))) = x
      rw [M.S_of_tl]
      exact (body_ok (h x hx)).2
    rw [this, List.map_id]
end N
/-! KC6: a sketch is a book. -/
namespace GC
open PySem J L2
variable [KC]
/-- a clear has no side and no distance -/
def norm (x : G.Part) : G.Part := if x.word = "clear" then ⟨x.word, x.over, x.by_, Str.empty, 0, x.tag⟩ else x
theorem norm_clause (x : G.Part) : G.clause (norm x) = G.clause x := by
  unfold norm
  split
  · rename_i h
    have hc : ¬ x.word = "call" := fun z => by rw [h] at z; exact absurd z (by decide)
    unfold G.clause
    dsimp only
    rw [if_neg hc, if_neg hc, if_pos h, if_pos h]
    rfl
  · rfl
theorem norm_line (r : List G.Part) : G.line (r.map norm) = G.line r := by
  unfold G.line
  rw [List.map_map]
  congr 1
  exact List.map_congr_left fun x _ => norm_clause x
theorem norm_eq (x : G.Part) : (norm x).word = x.word ∧ (norm x).over = x.over ∧ (norm x).by_ = x.by_ ∧ (norm x).tag = x.tag := by
  unfold norm
  split <;> exact ⟨rfl, rfl, rfl, rfl⟩
/-- a drawn clause -/
structure Cl (ls : List Str) (at_ : Nat) (rest step : Int) (calls : Bool) (x : G.Part) : Prop where
  o : x.over = rest
  b : x.by_ = step
  k : (calls = true ∧ x.word = "call" ∧ x.far = 0 ∧ x.side = Str.empty ∧ x.tag ∈ (if step = 1 then ls.drop (at_ + 1) else ls)) ∨ (calls = false ∧ (x.word = "join" ∨ x.word = "take" ∨ x.word = "clear") ∧ (x.side = "left" ∨ x.side = "right") ∧ 1 ≤ x.far ∧ x.far ≤ 4 ∧ x.tag = Str.empty)
theorem clause_cl {ls : List Str} {at_ : Nat} {rest step : Int} {calls : Bool} {p : Cu} (h : p.ok) (hl : ls ≠ []) (h1 : 1 ≤ step) (hc : calls = true → ¬ 1 < step → (at_ : Int) + 1 < ls.length) : Cl ls at_ rest step calls (clause ls at_ rest step calls p).1 := by
  obtain ⟨a0, a1, hp1⟩ := sip_ok (t := 5) h (by decide)
  obtain ⟨b0, b1, hp2⟩ := sip_ok (t := 3) hp1 (by decide)
  have hpos : 0 < ls.length := List.length_pos_iff.mpr hl
  unfold clause
  dsimp only
  cases calls with
  | true =>
    rw [if_pos rfl]
    split
    · rename_i hs
      obtain ⟨c0, c1, _⟩ := sip_ok (t := ls.length) hp2 (by omega)
      refine ⟨rfl, rfl, .inl ⟨rfl, rfl, rfl, rfl, ?_⟩⟩
      rw [if_neg (by omega)]
      exact G.nth_mem c0 c1
    · rename_i hs
      refine ⟨rfl, rfl, .inl ⟨rfl, rfl, rfl, rfl, ?_⟩⟩
      have hlt := hc rfl hs
      rw [if_pos (by omega)]
      show G.nth Str.empty ls ((at_ : Int) + 1) ∈ ls.drop (at_ + 1)
      have e := G.nth_some (d := Str.empty) (l := ls) (i := (at_ : Int) + 1) (by omega) hlt
      have e2 : ((at_ : Int) + 1).toNat = at_ + 1 := by omega
      rw [e2] at e
      refine List.mem_iff_getElem?.mpr ⟨0, ?_⟩
      rw [List.getElem?_drop]
      exact e
  | false =>
    rw [if_neg (by decide)]
    obtain ⟨c0, c1, _⟩ := sip_ok (t := 6) hp2 (by decide)
    have w := G.nth_mem (d := Str.empty) (l := words5) a0 a1
    have sd := G.nth_mem (d := Str.empty) (l := sides3) b0 b1
    have f := G.nth_mem (d := (0 : Int)) (l := fars6) c0 c1
    refine ⟨rfl, rfl, .inr ⟨rfl, ?_, ?_, ?_, ?_, rfl⟩⟩
    · revert w
      generalize G.nth Str.empty words5 _ = v
      intro w
      simp only [words5, List.mem_cons, List.not_mem_nil, or_false] at w
      show v = "join" ∨ v = "take" ∨ v = "clear"
      rcases w with rfl | rfl | rfl | rfl | rfl <;> simp
    · revert sd
      generalize G.nth Str.empty sides3 _ = v
      intro w
      simp only [sides3, List.mem_cons, List.not_mem_nil, or_false] at w
      show v = "left" ∨ v = "right"
      rcases w with rfl | rfl | rfl <;> simp
    · exact ((by decide : ∀ x ∈ fars6, (1 : Int) ≤ x ∧ x ≤ 4) _ f).1
    · exact ((by decide : ∀ x ∈ fars6, (1 : Int) ≤ x ∧ x ≤ 4) _ f).2
theorem part_good {ls : List Str} {at_ : Nat} {rest step : Int} {calls : Bool} {x : G.Part} (h : Cl ls at_ rest step calls x) (hn : ∀ s ∈ ls, M.nameOk s = true) (h1 : 1 ≤ step) (h3 : step ≤ 3) (r0 : 0 ≤ rest) (r1 : rest < step) : N.PartGood (norm x) := by
  obtain ⟨e1, e2, e3, e4⟩ := norm_eq x
  refine ⟨by rw [e3, h.b]; exact ⟨h1, h3⟩, by rw [e2, e3, h.o, h.b]; exact ⟨r0, r1⟩, ?_⟩
  rcases h.k with ⟨_, hw, hf, hs, ht⟩ | ⟨_, hw, hs, f1, f4, ht⟩
  · have en : norm x = x := by
      unfold norm
      rw [if_neg (fun z => by rw [hw] at z; exact absurd z (by decide))]
    rw [en]
    refine .inl ⟨hw, hn _ ?_, hf, hs⟩
    split at ht
    · exact List.mem_of_mem_drop ht
    · exact ht
  · by_cases hc : x.word = "clear"
    · have en : norm x = ⟨x.word, x.over, x.by_, Str.empty, 0, x.tag⟩ := by
        unfold norm
        rw [if_pos hc]
      rw [en]
      exact .inr (.inl ⟨hc, rfl, rfl, ht⟩)
    · have en : norm x = x := by
        unfold norm
        rw [if_neg hc]
      rw [en]
      refine .inr (.inr ⟨?_, hs, f1, f4, ht⟩)
      rcases hw with h | h | h
      · exact .inl h
      · exact .inr h
      · exact absurd h hc
/-- the parts of a drawn round -/
theorem round_parts {ls : List Str} {at_ : Nat} {p : Cu} (h : p.ok) (hl : ls ≠ []) : ∀ (i : Nat) (x : G.Part), (round ls at_ p).1[i]? = some x → i < (manyR ls at_ p).toNat ∧ Cl ls at_ ((rest0 p + (i : Int)) % stepR ls at_ p) (stepR ls at_ p) (decide ((sip 4 p).1 = 0)) x := by
  have hsr := stepR_r (ls := ls) (at_ := at_) h
  have hcs : decide ((sip 4 p).1 = 0) = true → ¬ 1 < stepR ls at_ p → (at_ : Int) + 1 < ls.length := fun z1 z2 => by
    have z3 := of_decide_eq_true z1
    unfold stepR at z2
    split at z2
    · exact absurd (by decide) z2
    · rename_i hh
      have := step0_r h
      have : step0 p = 1 := by omega
      omega
  have main : ∀ (m : Nat), ∀ (i : Nat) (x : G.Part), (run (fun (k : Nat) => clause ls at_ ((rest0 p + (k : Int)) % stepR ls at_ p) (stepR ls at_ p) (decide ((sip 4 p).1 = 0))) (List.range m) (cu4 p)).1[i]? = some x → i < m ∧ Cl ls at_ ((rest0 p + (i : Int)) % stepR ls at_ p) (stepR ls at_ p) (decide ((sip 4 p).1 = 0)) x := by
    intro m
    induction m with
    | zero => intro i x e; simp [run] at e
    | succ m ih =>
      intro i x e
      rw [List.range_succ, run_snoc] at e
      have hlen : (run (fun (k : Nat) => clause ls at_ ((rest0 p + (k : Int)) % stepR ls at_ p) (stepR ls at_ p) (decide ((sip 4 p).1 = 0))) (List.range m) (cu4 p)).1.length = m := by rw [run_len, List.length_range]
      have hok : (run (fun (k : Nat) => clause ls at_ ((rest0 p + (k : Int)) % stepR ls at_ p) (stepR ls at_ p) (decide ((sip 4 p).1 = 0))) (List.range m) (cu4 p)).2.ok := (run_ok (R := fun _ _ => True) _ _ (fun _ _ q hq => ⟨trivial, clause_ok hq hl⟩) (cu4_ok h).1).2
      dsimp only at e
      rcases Nat.lt_or_ge i m with hi | hi
      · rw [List.getElem?_append_left (by omega)] at e
        obtain ⟨a, b⟩ := ih i x e
        exact ⟨by omega, b⟩
      · rw [List.getElem?_append_right (by omega), hlen] at e
        have hi0 : i - m = 0 := by
          cases q : i - m with
          | zero => rfl
          | succ j => rw [q] at e; simp at e
        have him : i = m := by omega
        subst him
        rw [Nat.sub_self] at e
        cases e
        exact ⟨by omega, clause_cl hok hl hsr.1 hcs⟩
  exact main _
theorem round_len {ls : List Str} {at_ : Nat} {p : Cu} : (round ls at_ p).1.length = (manyR ls at_ p).toNat := by
  unfold round
  rw [run_len, List.length_range]
theorem round_good {ls : List Str} {at_ : Nat} {p : Cu} (h : p.ok) (hl : ls ≠ []) (hn : ∀ s ∈ ls, M.nameOk s = true) : N.RoundGood (ls.drop (at_ + 1)) ls ((round ls at_ p).1.map norm) := by
  have hsr := stepR_r (ls := ls) (at_ := at_) h
  have hm := manyR_r (ls := ls) (at_ := at_) h
  have hp := round_parts (at_ := at_) h hl
  have r0 : ∀ i : Nat, 0 ≤ (rest0 p + (i : Int)) % stepR ls at_ p ∧ (rest0 p + (i : Int)) % stepR ls at_ p < stepR ls at_ p := fun i => ⟨Int.emod_nonneg _ (by omega), Int.emod_lt_of_pos _ (by omega)⟩
  have hlen := round_len (ls := ls) (at_ := at_) (p := p)
  refine ⟨⟨by rw [List.length_map]; omega, by rw [List.length_map]; omega⟩, fun y hy => ?_, ⟨stepR ls at_ p, fun y hy => ?_⟩, ?_, ?_⟩
  · obtain ⟨x, hx, rfl⟩ := List.mem_map.mp hy
    obtain ⟨i, e⟩ := List.mem_iff_getElem?.mp hx
    exact part_good (hp i x e).2 hn hsr.1 hsr.2 (r0 i).1 (r0 i).2
  · obtain ⟨x, hx, rfl⟩ := List.mem_map.mp hy
    obtain ⟨i, e⟩ := List.mem_iff_getElem?.mp hx
    rw [(norm_eq x).2.2.1, (hp i x e).2.b]
  · rw [List.nodup_iff_pairwise_ne, List.pairwise_iff_getElem]
    intro i j hi hj hij heq
    rw [List.length_map, List.length_map] at hi hj
    have e1 := hp i _ (List.getElem?_eq_getElem (by omega))
    have e2 := hp j _ (List.getElem?_eq_getElem (by omega))
    have f1 : (((round ls at_ p).1.map norm).map (·.over))[i]'(by simpa using hi) = (rest0 p + (i : Int)) % stepR ls at_ p := by
      rw [List.getElem_map, List.getElem_map, (norm_eq _).2.1, e1.2.o]
    have f2 : (((round ls at_ p).1.map norm).map (·.over))[j]'(by simpa using hj) = (rest0 p + (j : Int)) % stepR ls at_ p := by
      rw [List.getElem_map, List.getElem_map, (norm_eq _).2.1, e2.2.o]
    rw [f1, f2] at heq
    have hs3 : stepR ls at_ p = 1 ∨ stepR ls at_ p = 2 ∨ stepR ls at_ p = 3 := by omega
    have hjm : (j : Int) < manyR ls at_ p := by omega
    rcases hs3 with hs | hs | hs <;> rw [hs] at heq hm <;> omega
  · by_cases hc : decide ((sip 4 p).1 = 0) = true
    · refine .inl fun y hy => ?_
      obtain ⟨x, hx, rfl⟩ := List.mem_map.mp hy
      obtain ⟨i, e⟩ := List.mem_iff_getElem?.mp hx
      have c := (hp i x e).2
      obtain ⟨n1, n2, n3, n4⟩ := norm_eq x
      rcases c.k with ⟨_, hw, _, _, ht⟩ | ⟨hf, _⟩
      · rw [n1, n3, n4, c.b]
        exact ⟨hw, ht⟩
      · rw [hf] at hc
        cases hc
    · refine .inr fun y hy => ?_
      obtain ⟨x, hx, rfl⟩ := List.mem_map.mp hy
      obtain ⟨i, e⟩ := List.mem_iff_getElem?.mp hx
      rcases (hp i x e).2.k with ⟨hf, _⟩ | ⟨_, hw, _⟩
      · exact absurd hf hc
      · rw [(norm_eq x).1]
        rcases hw with h | h | h <;> rw [h] <;> decide
end GC
/-! KC7: a sketch is a book, the whole. -/
namespace GC
open PySem J L2
variable [KC]
theorem run_get {α : Type} {f : Nat → Cu → α × Cu} : ∀ (m : Nat) (p : Cu), (∀ i, i < m → ∀ q, q.ok → (f i q).2.ok) → p.ok → ∀ (i : Nat) (x : α), (run f (List.range m) p).1[i]? = some x → ∃ q : Cu, q.ok ∧ i < m ∧ x = (f i q).1
  | 0, p, _, _, i, x, e => by simp [run] at e
  | m + 1, p, hf, hp, i, x, e => by
    rw [List.range_succ, run_snoc] at e
    have hlen : (run f (List.range m) p).1.length = m := by rw [run_len, List.length_range]
    have hok : (run f (List.range m) p).2.ok := (run_ok (R := fun _ _ => True) _ _ (fun b hb q hq => ⟨trivial, hf b (by have := List.mem_range.mp hb; omega) q hq⟩) hp).2
    dsimp only at e
    rcases Nat.lt_or_ge i m with hi | hi
    · rw [List.getElem?_append_left (by omega)] at e
      obtain ⟨q, a, b, c⟩ := run_get m p (fun i hi => hf i (by omega)) hp i x e
      exact ⟨q, a, by omega, c⟩
    · rw [List.getElem?_append_right (by omega), hlen] at e
      have hi0 : i - m = 0 := by
        cases q : i - m with
        | zero => rfl
        | succ j => rw [q] at e; simp at e
      have him : i = m := by omega
      subst him
      rw [Nat.sub_self] at e
      cases e
      exact ⟨_, hok, by omega, rfl⟩
theorem labels_fin : ∀ n : _root_.Fin 5, ∀ b : _root_.Fin 9, ∀ i : _root_.Fin 4, ((List.range n.val).map fun (k : Nat) => G.nth Str.empty menu9 (((b.val : Int) + G.nth 0 far4 (i.val : Int) * (k : Int)) % 9)).Nodup ∧ ∀ s ∈ ((List.range n.val).map fun (k : Nat) => G.nth Str.empty menu9 (((b.val : Int) + G.nth 0 far4 (i.val : Int) * (k : Int)) % 9)), M.nameOk s = true := by decide +kernel
theorem labels_good {n : Nat} {p : Cu} (h : p.ok) (hn : n ≤ 4) : (labels n p).1.Nodup ∧ (∀ s ∈ (labels n p).1, M.nameOk s = true) ∧ (labels n p).1.length = n := by
  obtain ⟨a0, a1, h1⟩ := sip_ok (t := 9) h (by decide)
  obtain ⟨b0, b1, h2⟩ := sip_ok (t := 4) h1 (by decide)
  have e := labels_fin ⟨n, by omega⟩ ⟨(sip 9 p).1.toNat, by omega⟩ ⟨(sip 4 (sip 9 p).2).1.toNat, by omega⟩
  dsimp only at e
  rw [show (((sip 9 p).1.toNat : Nat) : Int) = (sip 9 p).1 by omega, show (((sip 4 (sip 9 p).2).1.toNat : Nat) : Int) = (sip 4 (sip 9 p).2).1 by omega] at e
  exact ⟨e.1, e.2, (labels_ok h).2⟩
/-- a plan that can stand in a book at this place -/
structure PlGood (ls : List Str) (i : Nat) (x : G.Mate) : Prop where
  tag : ls[i]? = some x.tag
  goal : M.isGoal (.str (G.aim x.goal)) = true
  g8 : x.goal.1.length ≤ 8
  gn : 0 ≤ x.goal.2 ∧ x.goal.2 ≤ 9
  base : 1 ≤ x.base ∧ x.base ≤ 4
  many : 1 ≤ x.rounds.length ∧ x.rounds.length ≤ 5
  rounds : ∀ r ∈ x.rounds, N.RoundGood (ls.drop (i + 1)) ls (r.map norm)
  ok : ∀ r ∈ x.rounds, r.length ≤ 9 ∧ ∀ y ∈ r, G.PartOk y
theorem goal_fin : ∀ k : _root_.Fin 4, M.isGoal (.str (G.aim ("last", 1 + (k.val : Int)))) = true := by decide +kernel
theorem gl_all : M.isGoal (.str (G.aim ("all", 0))) = true := by decide +kernel
theorem gl_before : M.isGoal (.str (G.aim ("before", 0))) = true := by decide +kernel
theorem gl_l2 : M.isGoal (.str (G.aim ("last", 2))) = true := by decide +kernel
theorem gl_l4 : M.isGoal (.str (G.aim ("last", 4))) = true := by decide +kernel
theorem w8 : (("last" : Str)).length ≤ 8 ∧ (("all" : Str)).length ≤ 8 ∧ (("before" : Str)).length ≤ 8 := by decide +kernel
theorem goal_good {p : Cu} (h : p.ok) : M.isGoal (.str (G.aim (goal p).1)) = true ∧ (goal p).1.1.length ≤ 8 ∧ 0 ≤ (goal p).1.2 ∧ (goal p).1.2 ≤ 9 := by
  obtain ⟨a0, a1, h1⟩ := sip_ok (t := 4) h (by decide)
  have w := G.nth_mem (d := Str.empty) (l := goals4) a0 a1
  unfold goal
  revert w
  generalize G.nth Str.empty goals4 (sip 4 p).1 = v
  intro w
  obtain ⟨b0, b1, h2⟩ := sip_ok (t := 4) h1 (by decide)
  split
  · rename_i hv
    have e : v = "last" := beq_iff_eq.mp hv
    subst e
    have := goal_fin ⟨(sip 4 (sip 4 p).2).1.toNat, by omega⟩
    dsimp only at this
    rw [show (((sip 4 (sip 4 p).2).1.toNat : Nat) : Int) = (sip 4 (sip 4 p).2).1 by omega] at this
    exact ⟨this, w8.1, by show (0 : Int) ≤ 1 + _; omega, by show 1 + _ ≤ (9 : Int); omega⟩
  · rename_i hv
    have w2 : v = "all" ∨ v = "before" := by
      simp only [goals4, List.mem_cons, List.not_mem_nil, or_false] at w
      rcases w with rfl | rfl | rfl | rfl
      · exact .inl rfl
      · exact .inl rfl
      · exact .inr rfl
      · exact absurd (by decide) hv
    rcases w2 with rfl | rfl
    · exact ⟨gl_all, w8.2.1, Int.le_refl 0, by show (0 : Int) ≤ 9; decide⟩
    · exact ⟨gl_before, w8.2.2, Int.le_refl 0, by show (0 : Int) ≤ 9; decide⟩
theorem cl_ok {ls : List Str} {at_ : Nat} {rest step : Int} {calls : Bool} {x : G.Part} (h : Cl ls at_ rest step calls x) (hn : ∀ s ∈ ls, M.nameOk s = true) (h1 : 1 ≤ step) (h3 : step ≤ 3) (r0 : 0 ≤ rest) (r1 : rest < step) : G.PartOk x := by
  have e8 : ∀ s ∈ ls, s.length ≤ 8 := fun s hs => (M.name_signs (hn s hs)).2.1
  have l0 : (Str.empty).length ≤ 8 := by decide
  refine ⟨by rw [h.o]; omega, by rw [h.b]; omega, ?_, ?_, ?_, ?_⟩ <;> rcases h.k with ⟨_, hw, hf, hs, ht⟩ | ⟨_, hw, hs, f1, f4, ht⟩
  · rw [hf]; decide
  · omega
  · rw [hw]; decide +kernel
  · rcases hw with e | e | e <;> rw [e] <;> decide +kernel
  · rw [hs]; decide
  · rcases hs with e | e <;> rw [e] <;> decide +kernel
  · refine e8 _ ?_
    split at ht
    · exact List.mem_of_mem_drop ht
    · exact ht
  · rw [ht]; decide
theorem round_ok9 {ls : List Str} {at_ : Nat} {p : Cu} (h : p.ok) (hl : ls ≠ []) (hn : ∀ s ∈ ls, M.nameOk s = true) : (round ls at_ p).1.length ≤ 9 ∧ ∀ y ∈ (round ls at_ p).1, G.PartOk y := by
  have hsr := stepR_r (ls := ls) (at_ := at_) h
  have hm := manyR_r (ls := ls) (at_ := at_) h
  refine ⟨by rw [round_len]; omega, fun y hy => ?_⟩
  obtain ⟨i, e⟩ := List.mem_iff_getElem?.mp hy
  exact cl_ok (round_parts h hl i y e).2 hn hsr.1 hsr.2 (Int.emod_nonneg _ (by omega)) (Int.emod_lt_of_pos _ (by omega))
theorem nth_at {ls : List Str} {i : Nat} (hi : i < ls.length) : ls[i]? = some (G.nth Str.empty ls (i : Int)) := by
  have := G.nth_some (d := Str.empty) (l := ls) (i := (i : Int)) (by omega) (by omega)
  rwa [Int.toNat_natCast] at this
theorem plan_good {ls : List Str} {i : Nat} {most : Int} {p : Cu} (h : p.ok) (hi : i < ls.length) (hn : ∀ s ∈ ls, M.nameOk s = true) (m0 : 0 < most) (m5 : most ≤ 5) : PlGood ls i (plan ls i most p).1 := by
  have hne : ls ≠ [] := fun z => by rw [z] at hi; simp at hi
  have h1 := goal_ok h
  obtain ⟨a0, a1, h2⟩ := sip_ok (t := 4) h1 (by decide)
  obtain ⟨b0, b1, h3⟩ := sip_ok (t := most) h2 m0
  obtain ⟨g1, g2, g3, g4⟩ := goal_good h
  have each : ∀ r ∈ (plan ls i most p).1.rounds, ∃ q : Cu, q.ok ∧ r = (round ls i q).1 := fun r hr => by
    obtain ⟨j, e⟩ := List.mem_iff_getElem?.mp hr
    obtain ⟨q, a, _, c⟩ := run_get (f := fun (_ : Nat) => round ls (i : Int)) _ _ (fun _ _ q hq => round_ok hq hne) h3 j r e
    exact ⟨q, a, c⟩
  refine ⟨nth_at hi, g1, g2, ⟨g3, g4⟩, ⟨by show (1 : Int) ≤ 1 + _; omega, by show 1 + _ ≤ (4 : Int); omega⟩, ?_, fun r hr => ?_, fun r hr => ?_⟩
  · show 1 ≤ (run _ (List.range _) _).1.length ∧ (run _ (List.range _) _).1.length ≤ 5
    rw [run_len, List.length_range]
    omega
  · obtain ⟨q, hq, rfl⟩ := each r hr
    exact round_good hq hne hn
  · obtain ⟨q, hq, rfl⟩ := each r hr
    exact round_ok9 hq hne hn
theorem norm_jn (o b f : Int) : norm (jn o b f) = jn o b f := rfl
theorem norm_cl (o b : Int) (s : Str) : norm (cl o b s) = cl o b s := rfl
theorem jn_ok {o b f : Int} (h : (decide (0 ≤ o ∧ o ≤ 9 ∧ 0 ≤ b ∧ b ≤ 9 ∧ 0 ≤ f ∧ f ≤ 9)) = true) : G.PartOk (jn o b f) := by
  obtain ⟨h1, h2, h3, h4, h5, h6⟩ := of_decide_eq_true h
  exact ⟨⟨h1, h2⟩, ⟨h3, h4⟩, ⟨h5, h6⟩, by show (("join" : Str)).length ≤ 8; decide +kernel, by show (("left" : Str)).length ≤ 8; decide +kernel, by show (("" : Str)).length ≤ 8; decide +kernel⟩
theorem cl_okP {o b : Int} {s : Str} (h : (decide (0 ≤ o ∧ o ≤ 9 ∧ 0 ≤ b ∧ b ≤ 9)) = true) (hs : s.length ≤ 8) : G.PartOk (cl o b s) := by
  obtain ⟨h1, h2, h3, h4⟩ := of_decide_eq_true h
  exact ⟨⟨h1, h2⟩, ⟨h3, h4⟩, ⟨Int.le_refl 0, by show (0 : Int) ≤ 9; decide⟩, by show (("call" : Str)).length ≤ 8; decide +kernel, by show (("" : Str)).length ≤ 8; decide +kernel, hs⟩
theorem jn_good {o b f : Int} (h : (decide (1 ≤ b ∧ b ≤ 3 ∧ 0 ≤ o ∧ o < b ∧ 1 ≤ f ∧ f ≤ 4)) = true) : N.PartGood (jn o b f) := by
  obtain ⟨h1, h2, h3, h4, h5, h6⟩ := of_decide_eq_true h
  exact ⟨⟨h1, h2⟩, ⟨h3, h4⟩, .inr (.inr ⟨.inl rfl, .inl rfl, h5, h6, rfl⟩)⟩
theorem one_jn {lower tags : List Str} {o b f : Int} (h : (decide (1 ≤ b ∧ b ≤ 3 ∧ 0 ≤ o ∧ o < b ∧ 1 ≤ f ∧ f ≤ 4)) = true) : N.RoundGood lower tags ([jn o b f].map norm) := by
  refine ⟨⟨Nat.le_refl 1, Nat.le_of_ble_eq_true rfl⟩, fun x hx => ?_, ⟨b, fun x hx => ?_⟩, by simp, .inr fun x hx => ?_⟩ <;> rw [List.map_cons, List.map_nil, List.mem_singleton] at hx <;> subst hx
  · exact jn_good h
  · rfl
  · show (("join" : Str)) ≠ "call"
    decide
theorem one_cl {lower tags : List Str} {o b : Int} {s : Str} (h : (decide (2 ≤ b ∧ b ≤ 3 ∧ 0 ≤ o ∧ o < b)) = true) (hn : M.nameOk s = true) (hs : s ∈ tags) : N.RoundGood lower tags ([cl o b s].map norm) := by
  obtain ⟨h1, h2, h3, h4⟩ := of_decide_eq_true h
  refine ⟨⟨Nat.le_refl 1, Nat.le_of_ble_eq_true rfl⟩, fun x hx => ?_, ⟨b, fun x hx => ?_⟩, by simp, .inl fun x hx => ?_⟩ <;> rw [List.map_cons, List.map_nil, List.mem_singleton] at hx <;> subst hx
  · exact ⟨⟨by show 1 ≤ b; omega, h2⟩, ⟨h3, h4⟩, .inl ⟨rfl, hn, rfl, rfl⟩⟩
  · rfl
  · refine ⟨rfl, ?_⟩
    show s ∈ if b = 1 then lower else tags
    rw [if_neg (by omega)]
    exact hs
theorem two_jn {lower tags : List Str} : N.RoundGood lower tags ([jn 0 3 1, jn 1 3 2].map norm) := by
  refine ⟨⟨Nat.le_of_ble_eq_true rfl, Nat.le_of_ble_eq_true rfl⟩, fun x hx => ?_, ⟨3, fun x hx => ?_⟩, (by decide : [(0 : Int), 1].Nodup), .inr fun x hx => ?_⟩ <;> simp only [List.map_cons, List.map_nil, List.mem_cons, List.not_mem_nil, or_false] at hx <;> rcases hx with rfl | rfl
  · exact jn_good (by decide)
  · exact jn_good (by decide)
  · rfl
  · rfl
  · show (("join" : Str)) ≠ "call"
    decide
  · show (("join" : Str)) ≠ "call"
    decide
theorem good_good {ls : List Str} {i : Nat} {p : Cu} (h : p.ok) (hi : i < ls.length) (hn : ∀ s ∈ ls, M.nameOk s = true) : PlGood ls i (good ls i p).1 := by
  obtain ⟨a0, a1, h1⟩ := sip_ok (t := 3) h (by decide)
  have ht := nth_at hi
  have hm : G.nth Str.empty ls (i : Int) ∈ ls := List.mem_iff_getElem?.mpr ⟨i, ht⟩
  have hnm := hn _ hm
  have h8 := (M.name_signs hnm).2.1
  unfold good
  dsimp only
  revert ht hm hnm h8
  generalize G.nth Str.empty ls (i : Int) = s
  intro ht hm hnm h8
  generalize (sip 4 (sip 3 p).2).1 = pk
  have hb : 1 ≤ 1 + (sip 3 p).1 ∧ 1 + (sip 3 p).1 ≤ 4 := by omega
  revert hb
  generalize 1 + (sip 3 p).1 = b
  intro hb
  unfold goodM
  split
  · refine ⟨ht, gl_l2, w8.1, (by decide : (0 : Int) ≤ (2 : Int) ∧ (2 : Int) ≤ 9), hb, ⟨Nat.le_of_ble_eq_true rfl, Nat.le_of_ble_eq_true rfl⟩, fun r hr => ?_, fun r hr => ?_⟩ <;> rw [List.mem_singleton] at hr <;> subst hr
    · exact one_jn (by decide)
    · exact ⟨Nat.le_of_ble_eq_true rfl, fun y hy => by rw [List.mem_singleton] at hy; subst hy; exact jn_ok (by decide)⟩
  · split
    · refine ⟨ht, gl_l4, w8.1, (by decide : (0 : Int) ≤ (4 : Int) ∧ (4 : Int) ≤ 9), hb, ⟨Nat.le_of_ble_eq_true rfl, Nat.le_of_ble_eq_true rfl⟩, fun r hr => ?_, fun r hr => ?_⟩ <;> simp only [List.mem_cons, List.not_mem_nil, or_false] at hr <;> rcases hr with rfl | rfl
      · exact one_jn (by decide)
      · exact one_jn (by decide)
      · exact ⟨Nat.le_of_ble_eq_true rfl, fun y hy => by rw [List.mem_singleton] at hy; subst hy; exact jn_ok (by decide)⟩
      · exact ⟨Nat.le_of_ble_eq_true rfl, fun y hy => by rw [List.mem_singleton] at hy; subst hy; exact jn_ok (by decide)⟩
    · split
      · refine ⟨ht, gl_all, w8.2.1, (by decide : (0 : Int) ≤ (0 : Int) ∧ (0 : Int) ≤ 9), hb, ⟨Nat.le_of_ble_eq_true rfl, Nat.le_of_ble_eq_true rfl⟩, fun r hr => ?_, fun r hr => ?_⟩ <;> simp only [List.mem_cons, List.not_mem_nil, or_false] at hr <;> rcases hr with rfl | rfl | rfl
        · exact one_jn (by decide)
        · exact one_cl (by decide) hnm hm
        · exact one_jn (by decide)
        · exact ⟨Nat.le_of_ble_eq_true rfl, fun y hy => by rw [List.mem_singleton] at hy; subst hy; exact jn_ok (by decide)⟩
        · exact ⟨Nat.le_of_ble_eq_true rfl, fun y hy => by rw [List.mem_singleton] at hy; subst hy; exact cl_okP (by decide) h8⟩
        · exact ⟨Nat.le_of_ble_eq_true rfl, fun y hy => by rw [List.mem_singleton] at hy; subst hy; exact jn_ok (by decide)⟩
      · refine ⟨ht, gl_all, w8.2.1, (by decide : (0 : Int) ≤ (0 : Int) ∧ (0 : Int) ≤ 9), hb, ⟨Nat.le_of_ble_eq_true rfl, Nat.le_of_ble_eq_true rfl⟩, fun r hr => ?_, fun r hr => ?_⟩ <;> simp only [List.mem_cons, List.not_mem_nil, or_false] at hr <;> rcases hr with rfl | rfl | rfl | rfl
        · exact one_jn (by decide)
        · exact one_jn (by decide)
        · exact one_cl (by decide) hnm hm
        · exact two_jn
        · exact ⟨Nat.le_of_ble_eq_true rfl, fun y hy => by rw [List.mem_singleton] at hy; subst hy; exact jn_ok (by decide)⟩
        · exact ⟨Nat.le_of_ble_eq_true rfl, fun y hy => by rw [List.mem_singleton] at hy; subst hy; exact jn_ok (by decide)⟩
        · exact ⟨Nat.le_of_ble_eq_true rfl, fun y hy => by rw [List.mem_singleton] at hy; subst hy; exact cl_okP (by decide) h8⟩
        · exact ⟨Nat.le_of_ble_eq_true rfl, fun y hy => by
            simp only [List.mem_cons, List.not_mem_nil, or_false] at hy
            rcases hy with rfl | rfl
            · exact jn_ok (by decide)
            · exact jn_ok (by decide)⟩
end GC
/-! KC8: what a sketch tells is a book's plans. -/
namespace GC
open PySem J L2 M
variable [KC]
theorem sketch_get {n : Nat} {most : Int} {p : Cu} (h : p.ok) (hn : n ≤ 4) (m0 : 0 < most) (m5 : most ≤ 5) : ∃ ls : List Str, ls.Nodup ∧ (∀ s ∈ ls, M.nameOk s = true) ∧ ls.length = n ∧ (sketch n most p).1.length = n ∧ (sketch n most p).2.ok ∧ ∀ (i : Nat) (x : G.Mate), (sketch n most p).1[i]? = some x → PlGood ls i x := by
  obtain ⟨l1, l2, l3⟩ := labels_good (n := n) h hn
  have hok := (labels_ok (n := n) h).1
  have hf : ∀ i, i < n → ∀ q : Cu, q.ok → (one (labels n p).1 most i q).2.ok := fun i hi q hq => one_ok hq (fun z => by rw [z] at l3; simp at l3; omega) m0
  refine ⟨(labels n p).1, l1, l2, l3, ?_, ?_, fun i x e => ?_⟩
  · unfold sketch
    rw [run_len, List.length_range]
  · exact (run_ok (R := fun _ _ => True) _ _ (fun b hb q hq => ⟨trivial, hf b (List.mem_range.mp hb) q hq⟩) hok).2
  · obtain ⟨q, hq, hi, rfl⟩ := run_get (f := one (labels n p).1 most) n _ hf hok i x e
    obtain ⟨_, _, hq1⟩ := sip_ok (t := 2) hq (by decide)
    unfold one
    split
    · exact good_good hq1 (by omega) l2
    · exact plan_good hq1 (by omega) l2 m0 m5
theorem pl_ok {ls : List Str} {i : Nat} {x : G.Mate} (h : PlGood ls i x) (hn : ∀ s ∈ ls, M.nameOk s = true) : PlOk x := by
  have ht : M.nameOk x.tag = true := hn _ (List.mem_iff_getElem?.mpr ⟨i, h.tag⟩)
  have h1 := h.base
  have h2 := h.many
  exact ⟨(M.name_signs ht).2.1, h.g8, h.gn, by omega, by omega, h.ok⟩
theorem told_good {ls : List Str} {ms : List G.Mate} (nd : ls.Nodup) (hn : ∀ s ∈ ls, M.nameOk s = true) (hl : ls.length = ms.length) (h1 : 1 ≤ ms.length) (h4 : ms.length ≤ 4) (hg : ∀ (i : Nat) (x : G.Mate), ms[i]? = some x → PlGood ls i x) : M.Good (ms.map G.told) := by
  have names : (ms.map G.told).map M.nameOf = ls := by
    refine List.ext_getElem? fun i => ?_
    rw [List.map_map, List.getElem?_map]
    cases e : ms[i]? with
    | none =>
      have : ms.length ≤ i := List.getElem?_eq_none_iff.mp e
      have e2 : ls[i]? = none := List.getElem?_eq_none_iff.mpr (by omega)
      rw [e2]
      rfl
    | some x =>
      rw [(hg i x e).tag]
      rfl
  have stands : ∀ (i : Nat) (x : G.Mate), ms[i]? = some x → ∀ r ∈ x.rounds, M.canStand (.str (G.line r)) ls (i : Int) = true := fun i x e r hr => by
    have := N.round_stands (tags := ls) (i := i) ((hg i x e).rounds r hr)
    rwa [norm_line] at this
  refine ⟨by rw [List.length_map]; exact h4, by rw [List.length_map]; exact h1, fun p hp => ?_, by rw [names]; exact nd, fun i p e t ht => ?_⟩
  · obtain ⟨x, hx, rfl⟩ := List.mem_map.mp hp
    obtain ⟨i, e⟩ := List.mem_iff_getElem?.mp hx
    have g := hg i x e
    have htn : M.nameOk x.tag = true := hn _ (List.mem_iff_getElem?.mpr ⟨i, g.tag⟩)
    refine ⟨?_, ?_⟩
    · show (baseOk (.int x.base) && (isName (.str x.tag) && (isGoal (.str (G.aim x.goal)) && areRounds (.tuple (x.rounds.map fun r => .str (G.line r)))))) = true
      have b1 : baseOk (.int x.base) = true := by
        show (decide (1 ≤ x.base) && decide (x.base ≤ 4)) = true
        rw [decide_eq_true g.base.1, decide_eq_true g.base.2]
        rfl
      have b2 : isName (.str x.tag) = true := htn
      have b3 : areRounds (.tuple (x.rounds.map fun r => .str (G.line r))) = true := by
        show ((decide (1 ≤ ((x.rounds.map fun r => PyData.str (G.line r)).length : Int)) && decide (((x.rounds.map fun r => PyData.str (G.line r)).length : Int) ≤ 5)) && (x.rounds.map fun r => PyData.str (G.line r)).all fun x => !isNone (readRound x)) = true
        have hm := g.many
        rw [List.length_map, decide_eq_true (by omega), decide_eq_true (by omega)]
        show (true && _) = true
        rw [Bool.true_and, List.all_eq_true]
        intro y hy
        obtain ⟨r, hr, rfl⟩ := List.mem_map.mp hy
        have hs := stands i x e r hr
        unfold M.canStand at hs
        cases q : M.readRound (.str (G.line r)) with
        | tuple cs => rfl
        | _ => rw [q] at hs; cases hs
      rw [b1, b2, g.goal, b3]
      rfl
    · intro n' g' b' r' z
      cases z
      have h8 := (M.name_signs htn).2.1
      refine ⟨fun q z => ?_, fun ds z y hy q zq => ?_⟩
      · cases z
        omega
      · cases z
        subst zq
        obtain ⟨r, hr, e3⟩ := List.mem_map.mp hy
        cases e3
        have := line_len (g.ok r hr).1 (g.ok r hr).2
        omega
  · rw [List.getElem?_map] at e
    cases e2 : ms[i]? with
    | none => rw [e2] at e; cases e
    | some x =>
      rw [e2] at e
      cases e
      obtain ⟨r, hr, rfl⟩ := List.mem_map.mp (show t ∈ x.rounds.map fun r => PyData.str (G.line r) from ht)
      rw [names]
      exact stands i x e2 r hr
end GC
/-! NS: what repr shows is a text. -/
namespace N
open PySem J L2 PyProof.Rows
variable [KC]
def OkS (s : Str) : Prop := ∀ c ∈ s.cps.toList, c < 0x110000
theorem okS_iff {s : Str} : OkS s ↔ PyData.strOk s = true := by
  unfold PyData.strOk OkS
  rw [← Array.all_toList, List.all_eq_true]
  exact ⟨fun h c hc => decide_eq_true (h c hc), fun h c hc => of_decide_eq_true (h c hc)⟩
theorem char_lt (c : Char) : c.toNat < 0x110000 := by
  have h := c.valid
  have e : c.val.toNat = c.toNat := rfl
  rcases h with h | h
  · omega
  · omega
theorem okS_of (s : String) : OkS (s : Str) := fun c hc => by
  rw [signs_ofString] at hc
  obtain ⟨ch, _, rfl⟩ := List.mem_map.mp hc
  exact char_lt ch
theorem okS_app {a b : Str} (h : OkS a) (g : OkS b) : OkS (a ++ b) := fun c hc => (mem_cps_append.mp hc).elim (h c) (g c)
theorem okS_join {sep : Str} {ts : List Str} (h : OkS sep) (g : ∀ t ∈ ts, OkS t) : OkS (Str.join sep ts) := fun c hc => by
  rcases (mem_join sep c ts).mp hc with ⟨t, ht, z⟩ | ⟨_, z⟩
  · exact g t ht c z
  · exact h c z
theorem repr_fold (q : Nat) : ∀ (l : List Nat) (acc : Array Nat), (l.foldl (fun out c => out ++ (Builtin.Str.reprChar q c).toArray) acc).toList = acc.toList ++ l.flatMap (Builtin.Str.reprChar q)
  | [], acc => by simp
  | c :: r, acc => by
    rw [List.foldl_cons, repr_fold q r]
    simp
theorem repr_char {q c d : Nat} (hq : q < 0x110000) (hc : c < 0x110000) (h : d ∈ Builtin.Str.reprChar q c) : d < 0x110000 := by
  have hex : ∀ (w : Nat) (x : Nat), x ∈ (List.replicate w 48 ++ (Nat.toDigits 16 c).map Char.toNat) → x < 0x110000 := fun w x hx => by
    rcases List.mem_append.mp hx with z | z
    · have := List.eq_of_mem_replicate z
      omega
    · obtain ⟨ch, _, rfl⟩ := List.mem_map.mp z
      exact char_lt ch
  have two : ∀ x : Nat, x < 0x110000 → d ∈ [92, x] → d < 0x110000 := fun x hx hd => by
    rcases List.mem_cons.mp hd with rfl | hd
    · decide
    · rw [List.mem_singleton.mp hd]
      exact hx
  unfold Builtin.Str.reprChar at h
  dsimp only at h
  split at h
  · exact two c hc h
  · split at h
    · exact two 110 (by decide) h
    · split at h
      · exact two 114 (by decide) h
      · split at h
        · exact two 116 (by decide) h
        · split at h
          · rw [List.mem_singleton.mp h]
            exact hc
          · split at h
            · rcases List.mem_append.mp h with z | z
              · exact two 120 (by decide) z
              · exact hex _ _ z
            · split at h
              · rcases List.mem_append.mp h with z | z
                · exact two 117 (by decide) z
                · exact hex _ _ z
              · rcases List.mem_append.mp h with z | z
                · exact two 85 (by decide) z
                · exact hex _ _ z
theorem quote_lt (x : Str) : reprQuote x < 0x110000 := by
  unfold reprQuote
  split <;> decide
theorem okS_repr {x : Str} (h : OkS x) : OkS (reprText x) := by
  intro c hc
  unfold reprText at hc
  have hq := quote_lt x
  simp only [Array.toList_push] at hc
  rw [← Array.foldl_toList, repr_fold] at hc
  simp only [List.mem_append, List.mem_cons, List.not_mem_nil, or_false, List.mem_flatMap] at hc
  rcases hc with (rfl | ⟨d, hd, hm⟩) | rfl
  · exact hq
  · exact repr_char hq (h d hd) hm
  · exact hq
mutual
theorem okS_shown : ∀ d : PyData, d.canLay0 = true → OkS d.shown
  | .none, _ => by rw [PyData.shown_none]; exact okS_of _
  | .bool b, _ => by rw [PyData.shown_bool]; cases b <;> exact okS_of _
  | .int i, _ => by rw [PyData.shown_int]; exact okS_of _
  | .str x, h => by
    rw [PyData.shown_str]
    exact okS_repr (okS_iff.mpr (by simpa only [PyData.canLay0] using h))
  | .list xs, h => by
    rw [PyData.shown_list]
    exact okS_app (okS_app (okS_of _) (okS_join (okS_of _) (okS_all xs (by simpa only [PyData.canLay0] using h)))) (okS_of _)
  | .tuple xs, h => by
    rw [PyData.shown_tuple]
    exact okS_app (okS_app (okS_of _) (okS_join (okS_of _) (okS_all xs (by simpa only [PyData.canLay0] using h)))) (okS_of _)
  | .dict _, h => by simp [PyData.canLay0] at h
theorem okS_all : ∀ xs : List PyData, PyData.canLayAll0 xs = true → ∀ t ∈ PyData.shownAll xs, OkS t
  | [], _, t, ht => by rw [PyData.shownAll_nil] at ht; exact absurd ht (by simp)
  | x :: r, h, t, ht => by
    simp only [PyData.canLayAll0, Bool.and_eq_true] at h
    rw [PyData.shownAll_cons, List.mem_cons] at ht
    rcases ht with rfl | ht
    · exact okS_shown x h.1
    · exact okS_all r h.2 t ht
end
/-- a list of texts has its shape -/
theorem shaped_strs {ys : List Str} (h : ∀ y ∈ ys, PyData.strOk y = true) : SeqAt.shaped (.list (ys.map .str)) = true := by
  have a : ∀ zs : List Str, (∀ y ∈ zs, PyData.strOk y = true) → PyData.canLayAll0 (zs.map .str) = true ∧ PyData.depthAll (zs.map .str) ≤ 0 := by
    intro zs
    induction zs with
    | nil => exact fun _ => ⟨rfl, Nat.le_of_eq (by simp [PyData.depthAll])⟩
    | cons z zs ih =>
      intro hz
      obtain ⟨h1, h2⟩ := ih fun y hy => hz y (List.mem_cons_of_mem _ hy)
      exact ⟨by simp [PyData.canLayAll0, PyData.canLay0, h1, hz z List.mem_cons_self], by simp [PyData.depthAll, PyData.depth] at h2 ⊢; exact h2⟩
  obtain ⟨h1, h2⟩ := a ys h
  unfold SeqAt.shaped
  rw [Bool.and_eq_true]
  exact ⟨by simp only [PyData.canLay0]; exact h1, decide_eq_true (by simp only [PyData.depth]; omega)⟩
theorem eqv_strs (ys : List Str) (h : ∀ y ∈ ys, PyData.strOk y = true) : PyData.eqv (.list (ys.map .str)) (.list (ys.map .str)) = true := by
  have := shaped_strs h
  unfold SeqAt.shaped at this
  rw [Bool.and_eq_true] at this
  exact SeqAt.eqv_refl _ this.1
end N
/-! J39: shown texts of data with dicts; tuples of lists that change. -/
namespace N
open PySem J L2
variable [KC]
mutual
theorem okS_shown2 : ∀ d : PyData, lay2 d = true → OkS d.shown
  | .none, _ => by rw [PyData.shown_none]; exact okS_of _
  | .bool b, _ => by rw [PyData.shown_bool]; cases b <;> exact okS_of _
  | .int i, _ => by rw [PyData.shown_int]; exact okS_of _
  | .str x, h => by
    rw [PyData.shown_str]
    exact okS_repr (okS_iff.mpr (by simpa only [lay2] using h))
  | .list xs, h => by
    rw [PyData.shown_list]
    exact okS_app (okS_app (okS_of _) (okS_join (okS_of _) (okS_all2 xs (by simpa only [lay2] using h)))) (okS_of _)
  | .tuple xs, h => by
    rw [PyData.shown_tuple]
    exact okS_app (okS_app (okS_of _) (okS_join (okS_of _) (okS_all2 xs (by simpa only [lay2] using h)))) (okS_of _)
  | .dict l, h => by
    rw [PyData.shown_dict]
    exact okS_app (okS_app (okS_of _) (okS_join (okS_of _) (okS_kv2 l (by simpa only [lay2] using h)))) (okS_of _)
theorem okS_all2 : ∀ xs : List PyData, lay2All xs = true → ∀ t ∈ PyData.shownAll xs, OkS t
  | [], _, t, ht => by rw [PyData.shownAll_nil] at ht; exact absurd ht (by simp)
  | x :: r, h, t, ht => by
    simp only [lay2All, Bool.and_eq_true] at h
    rw [PyData.shownAll_cons, List.mem_cons] at ht
    rcases ht with rfl | ht
    · exact okS_shown2 x h.1
    · exact okS_all2 r h.2 t ht
theorem okS_kv2 : ∀ l : List (PyData × PyData), lay2Kv l = true → ∀ t ∈ PyData.shownKv l, OkS t
  | [], _, t, ht => by simp [PyData.shownKv] at ht
  | (k, v) :: r, h, t, ht => by
    simp only [lay2Kv, Bool.and_eq_true] at h
    simp only [PyData.shownKv, List.mem_cons] at ht
    rcases ht with rfl | ht
    · refine okS_app (okS_app ?_ (okS_of _)) (okS_shown2 v h.1.2)
      cases k with
      | int i => rw [PyData.shown_int]; exact okS_of _
      | str x =>
        rw [PyData.shown_str]
        exact okS_repr (okS_iff.mpr h.1.1)
      | _ => exact absurd h.1.1 (by simp [atomK])
    · exact okS_kv2 r h.2 t ht
end
end N
namespace J
open PySem PySem.Spec
open PyProof.Rows L2
variable [KC]
theorem cvTupC {K : PySem.W.Frag} {μ : Sto} {ds : List PyData} {n0 : Nat} (hn : μ[n0]? = some ds) : CallV K (fun xs H Q => ∃ p ys, xs = [V.ref p] ∧ ((SqL K H p ys ∧ ∀ l, H l = none → Q (.ref l) (upd H l (.tup ys))) ∨ (SqT K H p ys ∧ Q (.ref p) H))) [.ptr n0] (Tp ds) μ := call1 fun w H v m a Q q => by
  obtain ⟨p, hp, rfl⟩ := a
  obtain ⟨vs, hb, hd⟩ := m.cell n0 p ds hp hn
  exact ⟨p, vs, rfl, .inl ⟨SqL.of hb, new_tup m hd q⟩⟩
theorem bTupCell {X : Cx} {ρ : REnv} {μ μ1 : Sto} {a : Expr} {p pos : Pos} {ds : List PyData} {n0 : Nat} (T : X.mg "tuple" = none) (ha : EV X a ρ μ (.ptr n0) μ1) (hn : μ1[n0]? = some ds) (hg : Gl X "tuple" := by rfl) (hs : starEach [a] X.env = (false, eval a X.env) :: starEach [] X.env := by rfl) : EV X (.Call (.Name "tuple" p) [a] [] pos) ρ μ (Tp ds) μ1 := EV.callTy call_tuple_of T (by decide +kernel) (AV.cons ha AV.nil hs) (cvTupC hn) hg (by decide) (by decide) hs (by rfl)
end J
/-! PA1: accepts_hazard. -/
namespace GC
open PySem J L2 M
variable [KC]
/-- the clause as the program reads it -/
def czA (x : G.Part) : M.Cz := ⟨x.word, x.over, x.by_, if x.word = "clear" then 0 else if x.side = "right" then x.far else -x.far⟩
theorem czA_dat {x : G.Part} (h : x.word ≠ "call") : N.clauseOf (norm x) = (czA x).dat := by
  obtain ⟨e1, e2, e3, e4⟩ := norm_eq x
  unfold N.clauseOf N.more M.Cz.dat czA
  dsimp only
  rw [e1, e2, e3, if_neg h]
  by_cases hc : x.word = "clear"
  · rw [if_pos hc, if_pos hc]
  · have en : norm x = x := by
      unfold norm
      rw [if_neg hc]
    rw [if_neg hc, if_neg hc, en]
    split <;> rfl
/-- a sketch as a book -/
structure SkA (ms : List G.Mate) : Prop where
  good : M.Good (ms.map G.told)
  pl : ∀ (i : Nat) (x : G.Mate), ms[i]? = some x → ∃ ls, GC.PlGood ls i x
/-- the hazards of a round at a length -/
def hazR (r : List G.Part) (n : Int) : List Int := match r with
  | [] => []
  | c :: cs => if c.word = "call" then [] else hazP ((c :: cs).map czA) n
def hazB (x : G.Mate) (d : PyData) (n p : Int) : Bool := match d with
  | .int k => decide (0 ≤ k) && decide (k < (x.rounds.length : Int)) && decide (p ∈ hazR (x.rounds.getD k.toNat []) n)
  | _ => false
end GC
namespace J
open PySem PySem.Spec
open PyProof.Rows L2
variable [KC]
section
variable {w : World} {P : Program} {K : PySem.W.Frag} {base : Heap} {mg : Str → Option Value} {C : Addr}
theorem scIcA : FnScope ["value", "most"] ["value", "most"] (defScope sIsCount) := ⟨rfl, rfl, rfl, by decide +kernel, rfl, by decide +kernel, by decide +kernel⟩
def cnIcA : Con := fun rs μ r μ' => ∃ n m : Int, rs = [Ii n, Ii m] ∧ True ∧ r = Bb (decide (1 ≤ n) && decide (n ≤ m)) ∧ μ' = μ
theorem cIcA (C1 : Cal P w K mg base "is_integer" 1 ["value"] (fn1 (fun d => isObj d = false) fun d => .bool (M.isInteger d))) (D : Df K mg "is_count" sIsCount) : Cal P w K mg base "is_count" 2 ["value", "most"] cnIcA := by
  refine D.cal scIcA (fun _ _ _ _ _ _ us hl => match us, hl with | [_, _], _ => rfl) (by decide) (fun rs μ r μ' h => by obtain ⟨_, _, _, _, _, rfl⟩ := h; rfl) fun f cdv A outer s H E hr rs μ r μ' hC => ?_
  obtain ⟨n, m, rfl, _, rfl, rfl⟩ := hC
  exact ST.retP (EV.eq (EV.andD (k := true) (EV.call C1 hr (AV.cons (nm 0) AV.nil) ⟨.int n, rfl, rfl, rfl, rfl⟩) fun _ => EV.one (chainLe op_le op_le EV.int (nm 0) (nm 1))) rfl) rfl
abbrev nAh : List Str := ["book", "certificate", "name", "size", "place", "texts"]
theorem scAh : FnScope nAh ["book", "certificate", "name", "size", "place"] (defScope sAcceptsHazard) := ⟨rfl, rfl, rfl, by decide +kernel, rfl, by decide +kernel, by decide +kernel⟩
def cnAh (C : Addr) : Con := fun rs μ r μ' => ∃ (ms : List G.Mate) (i : Nat) (x : G.Mate) (d : PyData) (n p : Int), rs = [bookE C (ms.map G.told), .dat d, Ss x.tag, Ii n, Ii p] ∧ (GC.SkA ms ∧ ms[i]? = some x ∧ 1 ≤ n ∧ n ≤ 100 ∧ 0 ≤ p ∧ p < n ∧ isObj d = false) ∧ r = Bb (GC.hazB x d n p) ∧ μ' = μ
theorem cAh (T : Bt mg) (hL : ∃ t, mg "MOST_LEVEL" = some (.int 100 t)) (B : Kl K C) (M1 : Mth P w K mg base C "plan" 4 ["self", "name"] (cnPlan C)) (C1 : Cal P w K mg base "is_count" 2 ["value", "most"] cnIcA) (C2 : Cal P w K mg base "is_index" 2 ["value", "many"] cnIsIndex) (C3 : Cal P w K mg base "read_round" 4 ["text"] cnReadRound) (C4 : Cal P w K mg base "hazard_places" 3 ["clauses", "size"] cnHz) (D : Df K mg "accepts_hazard" sAcceptsHazard) : Cal P w K mg base "accepts_hazard" 5 ["book", "certificate", "name", "size", "place"] (cnAh C) := by
  refine D.cal scAh (fun _ _ _ _ _ _ us hl => match us, hl with | [_, _, _, _, _], _ => rfl) (by decide) (fun rs μ r μ' h => by obtain ⟨_, _, _, _, _, _, _, _, _, rfl⟩ := h; rfl) fun f cdv A outer s H E hr rs μ r μ' hC => ?_
  obtain ⟨ms, i, x, d, n, p, rfl, ⟨S, hx, n1, n2, p0, pn, hob⟩, rfl, rfl⟩ := hC
  have hj1 : ((ms.map G.told).map M.nameOf)[i]? = some x.tag := by rw [List.getElem?_map, List.getElem?_map, hx]; rfl
  have hj2 : (ms.map G.told)[i]? = some (G.told x) := by rw [List.getElem?_map, hx]; rfl
  obtain ⟨ls, pl⟩ := S.pl i x hx
  obtain ⟨t0, e0⟩ : ∃ t0, t0 = some (bookE C (ms.map G.told)) := ⟨_, rfl⟩
  refine ST.set (i := 5) (r := Tp (x.rounds.map fun r => PyData.str (G.line r))) (ixT (EV.meth (nm 0) B.cl M1 hr rfl (AV.cons (nm 2) AV.nil) ⟨_, x.tag, i, G.told x, rfl, ⟨S.good, hj1, hj2⟩, rfl, rfl⟩) EV.int (at_nat (i := 3) rfl)) scAh.nd rfl (Or.inl rfl) ?_
  refine ST.envK (ρ' := [t0, some (.dat d), some (Ss x.tag), some (Ii n), some (Ii p), some (Tp (x.rounds.map fun r => PyData.str (G.line r)))]) (by rw [e0]; rfl) ?_
  have hidx : M.isIndex (.int p) n = true := by
    show (decide (0 ≤ p) && decide (p < n)) = true
    rw [decide_eq_true p0, decide_eq_true pn]
    rfl
  have hcnt : (decide (1 ≤ n) && decide (n ≤ 100)) = true := by
    rw [decide_eq_true n1, decide_eq_true n2]
    rfl
  refine ST.ifR (k := !M.isIndex d (x.rounds.length : Int)) (WV.tv (WV.orF (TV.eq (k' := false) (TV.not (TV.val (EV.call C1 (hr.mono (by decide)) (AV.cons (nm 3) (AV.cons (gI hL) AV.nil)) ⟨n, 100, rfl, trivial, rfl, rfl⟩))) (by rw [hcnt]; rfl)) (WV.orF (TV.eq (k' := false) (TV.not (TV.val (EV.call C2 (hr.mono (by decide)) (AV.cons (nm 4) (AV.cons (nm 3) AV.nil)) ⟨.int p, n, rfl, rfl, rfl, rfl⟩))) (by rw [hidx]; rfl)) (WV.or1 (TV.not (TV.val (EV.call C2 (hr.mono (by decide)) (AV.cons (nm 1) (AV.cons (EV.eq (bLenT T (nm 5)) (congrArg (fun n : Nat => Ii (n : Int)) (List.length_map _))) AV.nil)) ⟨d, _, rfl, hob, rfl, rfl⟩))))))) (fun hk => ?_) (fun hk => ?_)
  · refine ST.retP EV.bl ?_
    have : GC.hazB x d n p = false := by
      cases d with
      | int k =>
        have hk' : (decide (0 ≤ k) && decide (k < (x.rounds.length : Int))) = false := by
          have : M.isIndex (.int k) (x.rounds.length : Int) = false := by simpa using hk
          exact this
        show (decide (0 ≤ k) && decide (k < (x.rounds.length : Int)) && _) = false
        rw [hk']
        rfl
      | _ => rfl
    rw [this]
    rfl
  · have hk2 : M.isIndex d (x.rounds.length : Int) = true := by simpa using hk
    obtain ⟨k, rfl, k0, k1⟩ : ∃ k : Int, d = .int k ∧ 0 ≤ k ∧ k < (x.rounds.length : Int) := by
      cases d with
      | int k =>
        have h : (decide (0 ≤ k) && decide (k < (x.rounds.length : Int))) = true := hk2
        rw [Bool.and_eq_true, decide_eq_true_eq, decide_eq_true_eq] at h
        exact ⟨k, rfl, h.1, h.2⟩
      | _ => cases hk2
    have ek : ((k.toNat : Nat) : Int) = k := Int.toNat_of_nonneg k0
    obtain ⟨q, hq⟩ : ∃ q, x.rounds[k.toNat]? = some q := ⟨x.rounds[k.toNat]'(by omega), List.getElem?_eq_getElem (by omega)⟩
    have hqm := List.mem_iff_getElem?.mpr ⟨_, hq⟩
    have hqt : atI (x.rounds.map fun r => PyData.str (G.line r)) k = some (.str (G.line q)) := by
      rw [← ek]
      refine at_nat ?_
      rw [List.getElem?_map, hq]
      rfl
    have rg := pl.rounds q hqm
    have hrd := N.round_read rg
    rw [GC.norm_line, List.map_map] at hrd
    have hll := line_len (pl.ok q hqm).1 (pl.ok q hqm).2
    have hlen := rg.len
    rw [List.length_map] at hlen
    have hval : GC.hazB x (.int k) n p = decide (p ∈ GC.hazR q n) := by
      show (decide (0 ≤ k) && decide (k < (x.rounds.length : Int)) && decide (p ∈ GC.hazR (x.rounds.getD k.toNat []) n)) = _
      rw [decide_eq_true k0, decide_eq_true k1, List.getD_eq_getElem?_getD, hq]
      rfl
    rw [hval]
    have hhaz : cnHz [Tp (q.map fun c => N.clauseOf (GC.norm c)), Ii n] μ' (Ls ((GC.hazR q n).map .int)) μ' := by
      cases q with
      | nil => simp at hlen
      | cons c cs =>
        by_cases hc : c.word = "call"
        · refine .inl ⟨_, n, rfl, ⟨c.over, c.by_, c.tag, cs.map fun c => N.clauseOf (GC.norm c), ?_⟩, ?_, rfl⟩
          · rw [List.map_cons]
            congr 1
            obtain ⟨e1, e2, e3, e4⟩ := GC.norm_eq c
            unfold N.clauseOf N.more
            rw [e1, e2, e3, e4, if_pos hc, hc]
          · show Ls ((if c.word = "call" then [] else M.hazP ((c :: cs).map GC.czA) n).map .int) = _
            rw [if_pos hc]
            rfl
        · have hall : ∀ y ∈ c :: cs, y.word ≠ "call" := fun y hy => by
            obtain ⟨f1, _, _, _⟩ := GC.norm_eq y
            obtain ⟨g1, _, _, _⟩ := GC.norm_eq c
            rcases rg.calls with h | h
            · exact absurd (g1.symm.trans (h (GC.norm c) (List.mem_map_of_mem List.mem_cons_self)).1) hc
            · intro z
              exact h (GC.norm y) (List.mem_map_of_mem hy) (f1.trans z)
          refine .inr ⟨GC.czA c, cs.map GC.czA, n, ?_, ⟨hc, by rw [List.length_cons, List.length_map]; simp at hlen; omega, fun z hz => ?_⟩, ?_, rfl⟩
          · congr 2
            rw [← List.map_cons, List.map_map]
            exact List.map_congr_left fun y hy => GC.czA_dat (hall y hy)
          · rw [← List.map_cons] at hz
            obtain ⟨y, hy, rfl⟩ := List.mem_map.mp hz
            have g := rg.good (GC.norm y) (List.mem_map_of_mem hy)
            obtain ⟨_, f2, f3, _⟩ := GC.norm_eq y
            have gb := g.b
            have go := g.o
            rw [f3] at gb go
            rw [f2] at go
            have := rg_gen (e := y.over) (d := y.by_) (n := n) ⟨go.1, by omega⟩ ⟨gb.1, by omega⟩ (by omega)
            exact ⟨⟨this.1, by have := this.2; show (Builtin.Range.rangeSize y.over n y.by_).toNat ≤ 100000; omega⟩, by have := this.2; show (Builtin.Range.rangeSize y.over n y.by_).toNat ≤ 100; omega⟩
          · show Ls ((if c.word = "call" then [] else M.hazP ((c :: cs).map GC.czA) n).map .int) = _
            rw [if_neg hc]
            rfl
    refine ST.retP (EV.eq (cInL (nm 4) (EV.call C4 (hr.mono (by decide)) (AV.cons (EV.eq (EV.call C3 hr (AV.cons (ixT (nm 5) (nm 1) hqt) AV.nil) ⟨.str (G.line q), rfl, ⟨rfl, fun s e => by cases e; omega⟩, rfl, rfl⟩) (congrArg Ent.dat hrd)) (AV.cons (nm 3) AV.nil)) hhaz) rfl (by rw [List.all_map]; exact List.all_eq_true.mpr fun _ _ => rfl)) (by rw [inD_ints])) rfl
end
end J
/-! PA2: accepts, of a claim of a hazard. -/
namespace J
open PySem PySem.Spec
open PyProof.Rows L2
variable [KC]
/-- the module's two dicts: of lengths, of functions -/
structure ChkT (K : PySem.W.Frag) (w : World) (mg : Str → Option Value) (word fn : Str) (len : Int) : Prop where
  ex : ∃ (dl dc : Addr) (es1 es2 : Array DictEntry) (n1 n2 : Nat) (t : Tok) (f : Addr), KDict K w dl es1 n1 ∧ KDict K w dc es2 n2 ∧ mg "LENGTHS" = some (.ref dl) ∧ mg "CHECKS" = some (.ref dc) ∧ PySem.W.nsIn K dl word = some (some (.int len t)) ∧ PySem.W.nsIn K dc word = some (some (.ref f)) ∧ mg fn = some (.ref f)
theorem kd_dct {K : PySem.W.Frag} {w : World} {d : Addr} {es : Array DictEntry} {n : Nat} (D : KDict K w d es n) {x : Str} {u : Value} {v : V} (h : PySem.W.nsIn K d x = some (some u)) (r : RelV v u) : KDct K w d x v := ⟨es, n, u, D.at_, D.lit, h, r⟩
section
variable {w : World} {P : Program} {K : PySem.W.Frag} {base : Heap} {mg : Str → Option Value} {C : Addr}
abbrev nAc : List Str := ["claim", "certificate", "word", "check", "rest", "book"]
theorem scAc : FnScope nAc ["claim", "certificate"] (defScope sAccepts) := ⟨rfl, rfl, rfl, by decide +kernel, rfl, by decide +kernel, by decide +kernel⟩
def cnAcH : Con := fun rs μ r μ' => ∃ (ms : List G.Mate) (i : Nat) (x : G.Mate) (d : PyData) (n p : Int), rs = [Tp [.str "hazard", .str (M.bookText (ms.map G.told)), .str x.tag, .int n, .int p], .dat d] ∧ (GC.SkA ms ∧ ms[i]? = some x ∧ 1 ≤ n ∧ n ≤ 100 ∧ 0 ≤ p ∧ p < n ∧ isObj d = false ∧ (M.bookText (ms.map G.told)).length ≤ 90000) ∧ r = Bb (GC.hazB x d n p) ∧ μ' = μ
theorem cAcH (T : Bt mg) (R : CMth P w K mg base C "read" 10 (cnRead C)) (at_ : mg "Book" = some (.ref C)) (X : ChkT K w mg "hazard" "accepts_hazard" 5) (C1 : Cal P w K mg base "accepts_hazard" 5 ["book", "certificate", "name", "size", "place"] (cnAh C)) (D : Df K mg "accepts" sAccepts) : Cal P w K mg base "accepts" 11 ["claim", "certificate"] cnAcH := by
  refine D.cal scAc (fun _ _ _ _ _ _ us hl => match us, hl with | [_, _], _ => rfl) (by decide) (fun rs μ r μ' h => by obtain ⟨_, _, _, _, _, _, _, _, _, rfl⟩ := h; rfl) fun f cdv A outer s H E hr rs μ r μ' hC => ?_
  obtain ⟨ms, i, x, d, n, p, rfl, ⟨S, hx, n1, n2, p0, pn, hob, htl⟩, rfl, rfl⟩ := hC
  obtain ⟨dl, dc, es1, es2, m1, m2, t, g, D1, D2, g1, g2, v1, v2, hg⟩ := X.ex
  have hne : ms.map G.told ≠ [] := fun z => by
    have hh := (List.getElem?_eq_some_iff.mp hx).1
    rw [List.map_eq_nil_iff.mp z] at hh
    simp at hh
  have hback : M.readPlans (M.bookText (ms.map G.told)) = ms.map G.told := N.read_book hne fun y hy => (S.good.each y hy).1
  have c0 : ([PyData.str "hazard", .str (M.bookText (ms.map G.told)), .str x.tag, .int n, .int p])[0]? = some (.str "hazard") := rfl
  have c1 : ([PyData.str "hazard", .str (M.bookText (ms.map G.told)), .str x.tag, .int n, .int p])[1]? = some (.str (M.bookText (ms.map G.told))) := rfl
  refine ST.ifNo (WV.tv (WV.orF (TV.not (TV.val (isI T (T' := "tuple") (k := true) (nm 0) rfl rfl T.tuple))) (WV.orF (TV.eq (tEq (d := .int 5) (d2 := .int 0) (EV.eq (bLenT T (nm 0)) rfl) EV.int) rfl) (WV.or1 (TV.not (TV.val (isI T (T' := "str") (k := true) (ixT (nm 0) EV.int (at_nat c0)) rfl rfl T.str))))))) rfl ?_
  refine ST.set (i := 2) (r := Ss "hazard") (ixT (nm 0) EV.int (at_nat c0)) scAc.nd rfl (Or.inl rfl) ?_
  refine ST.ifNo (WV.tv (WV.orF (tNotInKD D2 (nm 2) (EV.glR g2) v2) (WV.or1 (TV.eq (tNe (d := .int 5) (d2 := .int 5) (EV.eq (bLenT T (nm 0)) rfl) (EV.ixKD (v := .int 5) (kd_dct D1 v1 ⟨t, rfl⟩) (EV.glR g1) (nm 2) (fun w H => Dq.int 5))) rfl)))) rfl ?_
  refine ST.set (i := 3) (r := .raw (.ref g)) (EV.ixKD (v := .ref g) (kd_dct D2 v2 rfl) (EV.glR g2) (nm 2) (fun w H => rfl)) scAc.nd rfl (Or.inl rfl) ?_
  refine ST.set (i := 4) (r := Tp [.str x.tag, .int n, .int p]) (EV.eq (EV.slT (nm 0) (PartV.some EV.int) PartV.none) rfl) scAc.nd rfl (Or.inl rfl) ?_
  obtain ⟨td, ed⟩ : ∃ td, td = d := ⟨_, rfl⟩
  refine ST.envK (ρ' := [some (Tp [.str "hazard", .str (M.bookText (ms.map G.told)), .str x.tag, .int n, .int p]), some (.dat d), some (Ss "hazard"), some (.raw (.ref g)), some (Tp [.str x.tag, .int n, .int p]), none]) rfl ?_
  refine ST.thru ?_ (fun _ _ _ _ z => z)
  refine ST.set (i := 5) (r := bookE C (ms.map G.told)) (EV.cmeth R at_ hr (ixT (nm 0) EV.int (at_nat c1)) ⟨_, rfl, ⟨htl, by rw [hback]; exact S.good⟩, by rw [hback], rfl⟩) scAc.nd rfl (Or.inl rfl) ?_
  exact ST.ret (EV.callLS (i := 3) C1 hg (hr.mono (by decide)) rfl rfl (by first | exact Or.inl rfl | exact Or.inr rfl) (AV.cons (nm 5) (AV.cons (nm 1) (AV.star (nm 4) AV.nil))) ⟨ms, i, x, d, n, p, rfl, ⟨S, hx, n1, n2, p0, pn, hob⟩, rfl, rfl⟩) ⟨rfl, by simp⟩
end
end J
/-! J60: objects with several fields, made by an __init__ that sets them one by one. -/
namespace J
open PySem PySem.Spec
open PyProof.Rows L2
variable [KC]
/-- all but one place are kept -/
def FrX (w : Wd) (x : Addr) (H H1 : Hp) : Prop := ∀ b o, b ≠ x → H b = some o → b ∉ w.α → Nt o → H1 b = some o
/-- an object that is being made -/
def InO (H : Hp) (w : Wd) (x dx C : Addr) (fs : List (Str × PyData)) : Prop := ∃ ws, H x = some (.ins C dx ws) ∧ ws.map (·.1) = fs.map (·.1) ∧ DqAll (dl H w.all) (ws.map (·.2)) (fs.map (·.2))
theorem putF_new {f : Str} {v : V} : ∀ {ws : List (Str × V)}, f ∉ ws.map (·.1) → putF f v ws = ws ++ [(f, v)]
  | [], _ => rfl
  | (g, y) :: ws, h => by
    have h1 : ¬ g = f := fun z => h (by rw [z]; exact List.mem_cons_self)
    show (if g = f then _ else _) = _
    rw [if_neg h1, putF_new fun z => h (List.mem_cons_of_mem _ z)]
    rfl
/-- the statements of an __init__: they end with these fields set -/
def SI (X : Cx) (C : Addr) (sts : List Stmt) (ρ : REnv) (μ : Sto) (fs fsF : List (Str × PyData)) : Prop :=
  ∀ w0 x dx σ H (D : Ends), Mem X.K H (wk' w0 x) μ → Sl X.K H (wk' w0 x) σ ρ → σ[0]? = some (some (.ref x)) → InO H (wk' w0 x) x dx C fs →
    (∀ σ1 H1, Mem X.K H1 (wk' w0 x) μ → FrX w0 x H H1 → InO H1 (wk' w0 x) x dx C fsF → D.nx σ1 H1) → SX X sts D σ H
section
variable {X : Cx} {ρ : REnv} {μ : Sto} {e : Expr} {es : List Expr} {rest : List Stmt} {pos p0 p1 p2 p' : Pos} {r : Ent} {rs : List Ent} {d : PyData} {x f sn : Str} {C : Addr} {fs fsF : List (Str × PyData)}
theorem InO.fr {H H1 : Hp} {w : Wd} {x dx C : Addr} {fs : List (Str × PyData)} {μ : Sto} {K : PySem.W.Frag} (h : InO H (wk' w x) x dx C fs) (m : Mem K H (wk' w x) μ) (f : Fr (wk' w x).α H H1) : InO H1 (wk' w x) x dx C fs := by
  obtain ⟨ws, h1, h2, h3⟩ := h
  exact ⟨ws, f x _ h1 (m.out x List.mem_cons_self) (fun q z => by cases z), h2, dqAll_mono (Fr.all (w := wk' w x) f) _ _ h3⟩
theorem FrX.pre {w : Wd} {x : Addr} {H H1 H2 : Hp} (f : Fr w.α H H1) (g : FrX w x H1 H2) : FrX w x H H2 := fun b o n e nb nt => g b o n (f b o e nb nt) nb nt
theorem SI.nil : SI X C [] ρ μ fsF fsF := fun w0 x dx σ H D m s hs hI q => ⟨_, pss_nil, q σ H m (fun b o _ e _ _ => e) hI⟩
theorem SI.expr (h : EV X e ρ μ r μ) (hr : SI X C rest ρ μ fs fsF) (hs : swapsWith e none pos.line X.env = pure false := by rfl) : SI X C (.Expr e pos :: rest) ρ μ fs fsF := by
  intro w0 x dx σ H D m s hs0 hI q
  refine ⟨_, pss_cons (ps_expr (p_ex (e := e)) hs) p_sx, ?_⟩
  refine h (wk' w0 x) σ H m s _ fun v H1 m1 f1 hv => ?_
  exact hr w0 x dx σ H1 D m1 (s.fr f1) hs0 (hI.fr m f1) fun σ1 H2 m2 f2 i2 => q σ1 H2 m2 (f2.pre f1) i2
theorem SI.set {i : Nat} (h : EV X e ρ μ r μ) (hi0 : i ≠ 0) (hN : X.N.Nodup) (hi : X.N[i]? = some x) (hx : Loc X.env.scope x) (hr : SI X C rest (ρ.set i (some r)) μ fs fsF) (hs : swapsWith e (some (.Name x p')) pos.line X.env = pure false := by rfl)
    (hf : X.fn x = true ∨ X.env.scope.names.lookup x = some .local := by first | exact .inl rfl | exact .inr rfl | assumption) : SI X C (.Assign [.Name x p'] e pos :: rest) ρ μ fs fsF := by
  intro w0 x dx σ H D m s hs0 hI q
  refine ⟨_, pss_cons (ps_set hN hi hx (p_ex (e := e)) hs hf) p_sx, ?_⟩
  refine h (wk' w0 x) σ H m s _ fun v H1 m1 f1 h1 => ?_
  exact hr w0 x dx _ H1 D m1 ((s.fr f1).set h1) (by rw [List.getElem?_set_ne hi0]; exact hs0) (hI.fr m f1) fun σ1 H2 m2 f2 i2 => q σ1 H2 m2 (f2.pre f1) i2
/-- self.f = e -/
theorem SI.fld (h : EV X e ρ μ (.dat d) μ) (hself : PE X (.Name sn p1) (tVar 0)) (cl : Cls X.K C) (na : NoAttr X.K C f) (hf : f ∉ fs.map (·.1)) (hl : fs.length < 1000) (hr : SI X C rest ρ μ (fs ++ [(f, d)]) fsF) (hs : swapsWith e (some (.Attribute (.Name sn p1) f p2)) pos.line X.env = pure false := by rfl) : SI X C (.Assign [.Attribute (.Name sn p1) f p2] e pos :: rest) ρ μ fs fsF := by
  intro w0 x dx σ H D m s hs0 hI q
  refine ⟨_, pss_cons (ps_fld hself (p_ex (e := e)) hs) p_sx, ?_⟩
  refine h (wk' w0 x) σ H m s _ fun v H1 m1 f1 h1 => ?_
  obtain ⟨ws, i1, i2, i3⟩ := hI.fr m f1
  have hwl : ws.length = fs.length := by
    have := congrArg List.length i2
    rwa [List.length_map, List.length_map] at this
  refine ⟨.ref x, hs0, x, C, dx, ws, rfl, i1, cl, na, by omega, ?_⟩
  have g : Same (dl H1 (wk' w0 x).all) (dl (upd H1 x (.ins C dx (putF f v ws))) (wk' w0 x).all) := same_outs
  refine hr w0 x dx σ _ D m1.outs ((s.fr f1).same g) hs0 ⟨ws ++ [(f, v)], ?_, by rw [List.map_append, List.map_append, i2]; rfl, ?_⟩ fun σ1 H2 m2 f2 i4 => q σ1 H2 m2 (fun b o n eb nb nt => f2 b o n (by rw [upd_ne n]; exact f1 b o eb nb nt) nb nt) i4
  · rw [upd_same, putF_new (by rw [i2]; exact hf)]
  · rw [List.map_append, List.map_append]
    exact dqAll_append (dqAll_mono g _ _ i3) (.cons (dq_mono g _ _ h1) .nil)
end
/-- the promise of an __init__ -/
def spInitF (K : PySem.W.Frag) (C : Addr) (con : List Ent → Sto → List (Str × PyData) → Prop) : Sp := fun vs H Q _ => ∃ x dx us w0 μ rs fs, vs = .ref x :: us ∧ Mem K H (wk' w0 x) μ ∧ Vas K H (wk' w0 x) us rs ∧ InO H (wk' w0 x) x dx C [] ∧ con rs μ fs ∧
  ∀ H1, Mem K H1 (wk' w0 x) μ → FrX w0 x H H1 → InO H1 (wk' w0 x) x dx C fs → Q .non H1
structure MakF (P : Program) (w : World) (K : PySem.W.Frag) (mg : Str → Option Value) (base : Heap) (n : Str) (C : Addr) (k : Nat) (ps : List Str) (con : List Ent → Sto → List (Str × PyData) → Prop) : Prop where
  ex : ∃ g fd, FnOk P w K mg base CX0 k g fd ps (spInitF K C con) ∧ Mk K C g ∧ mg n = some (.ref C) ∧ Binds K fd ps []
section
variable {w : World} {P : Program} {K : PySem.W.Frag} {base : Heap} {mg : Str → Option Value}
theorem okInitF {x qual : Str} {st : Stmt} {f : Addr} {fd : FuncData} {N ps : List Str} {k : Nat} {C : Addr} {con : List Ent → Sto → List (Str × PyData) → Prop} (F : Fun K x qual st f fd) (Sc : FnScope N ps (defScope st)) (hN : ps.length ≤ N.length) (hlen : ∀ rs μ fs, con rs μ fs → rs.length + 1 = ps.length)
    (body : ∀ (cdv : Value) (A : Around) (outer : List Env) (s : Shared) (H : Hp) (E : XK), Room k (A.deeper (envOfC qual (defScope st) s.heap.objs.size f cdv)) → ∀ rs μ fs, con rs μ fs →
      SI (cxOf CX0 P w K mg base N qual (defScope st) f cdv A outer s H E).nox C (defBody st) (none :: (rs.map some ++ List.replicate (N.length - (rs.length + 1)) none)) μ [] fs) : FnOk P w K mg base CX0 (k + 1) f fd ps (spInitF K C con) := by
  refine F.ok Sc (fun vs H Q E h => ?_) (fun cdv A outer s H vs Q E hr h => ?_)
  · obtain ⟨x, dx, us, w0, μ, rs, fs, rfl, _, hv, _, hC, _⟩ := h
    rw [List.length_cons, hv.1]
    exact hlen rs μ fs hC
  · obtain ⟨x, dx, us, w0, μ, rs, fs, rfl, m, hv, hI, hC, q⟩ := h
    have hl := hlen rs μ fs hC
    have sl0 := sl_start (N := N) (Vas.cons (r := .raw (.ref x)) (K := K) (H := H) (w := wk' w0 x) (v := .ref x) rfl hv) (by rw [List.length_cons]; omega)
    have sl : Sl K H (wk' w0 x) (L2.start N (.ref x :: us)) (none :: (rs.map some ++ List.replicate (N.length - (rs.length + 1)) none)) := by
      refine ⟨sl0.len.trans (by simp), fun i r e => ?_⟩
      cases i with
      | zero => simp at e
      | succ i => exact sl0.at_ (i + 1) r e
    obtain ⟨v0, hv0, e0⟩ := sl0.at_ 0 (.raw (.ref x)) rfl
    cases e0
    exact body cdv A outer s H E hr rs μ fs hC w0 x dx _ H _ m sl hv0 hI fun σ1 H1 m1 f1 i1 => q H1 m1 f1 i1
end
section
variable {X : Cx} {ρ : REnv} {μ μ1 : Sto} {e : Expr} {es : List Expr} {pos p : Pos} {rs : List Ent} {n : Str} {C : Addr} {fs : List (Str × PyData)} {k : Nat} {ps : List Str} {con : List Ent → Sto → List (Str × PyData) → Prop}
theorem EV.makeF (M : MakF X.prog X.w X.K X.mg X.base n C k ps con) (hr : Room (k + 1) X.A) (ha : AV X (e :: es) ρ μ rs μ1) (hC : con rs μ1 fs) (hg : Gl X n := by rfl) (hs : starEach (e :: es) X.env = (false, eval e X.env) :: starEach es X.env := by rfl) (hdb : (n == ("__debug__" : Str)) = false := by decide)
    (hpl : (backTo pos (starEach es X.env)).any (·.1) = false := by rfl) : EV X (.Call (.Name n p) (e :: es) [] pos) ρ μ (.obj C fs) μ1 := by
  intro w σ H m s Q q
  obtain ⟨g, fd, F, mk, hm, bi⟩ := M.ex
  refine ⟨_, pe_make (E := E0) mk F hr hg hm bi .nil pass0 (p_ax (e := e :: es)) hdb hs hpl, ?_⟩
  refine ha w σ H m s _ fun vs H1 m1 f1 h1 => ?_
  intro x dx hx hdx hne
  have hS : Same H1 (upd (upd H1 dx (.own x)) x (.ins C dx [])) := fun b u eb => by
    rw [upd_ne (ne_of_none eb hx), upd_ne (ne_of_none eb hdx)]
    exact eb
  have g := keep_out (K := X.K) (w := w) hx (Fr.of_same hS) ⟨_, upd_same⟩
  refine ⟨x, dx, vs, w, μ1, rs, fs, by rw [List.append_nil], make_mem m1 hx hdx hne, ⟨h1.1, fun i v r a b => ?_⟩, ⟨[], upd_same, rfl, .nil⟩, hC, fun H2 m2 f2 i2 => ⟨rfl, ?_⟩⟩
  · have hv := h1.2 i v r a b
    cases r with
    | dat d => exact dq_mono g _ _ hv
    | ptr k => exact hv
    | obj C2 fs2 =>
      obtain ⟨y, dy, ws, a1, a2, a3, a4⟩ := hv
      exact ⟨y, dy, ws, a1, g _ _ a2, a3, dqAll_mono g _ _ a4⟩
    | scr ns =>
      obtain ⟨y, a1, a2⟩ := hv
      refine ⟨y, a1, ?_⟩
      rcases a2 with (a2 | ⟨o, a2⟩) | a2
      · exact .inl (.inl (g _ _ a2))
      · exact .inl (.inr ⟨o, g _ _ a2⟩)
      · exact .inr a2
    | raw u => exact hv
    | exc a d fs2 =>
      obtain ⟨a1, ws, a2, a3, a4⟩ := hv
      exact ⟨a1, ws, g _ _ a2, a3, dqAll_mono g _ _ a4⟩
  · obtain ⟨ws, e2, n2, d2⟩ := i2
    have hxa : x ∉ w.all := m1.freshA hx
    refine q (.ref x) H2 m2.unkeep (f1.trans fun b o eb nb nt => f2 b o (ne_of_none eb hx) (hS b o eb) nb nt) ⟨x, dx, ws, rfl, dl_of hxa e2, n2, dqAll_mono (dl_sub fun b hb => all_wk'.mpr (.inr hb)) _ _ d2⟩
end
end J
/-! J54: functions called by keywords alone, in any order. -/
namespace J
open PySem PySem.Spec
open PyProof.Rows L2
variable [KC]
/-- the items at these places -/
def pm {α : Type} (is : List Nat) (l : List α) : List α := is.filterMap fun i => l[i]?
theorem vals_at : ∀ {vs : List V} {us : List Value} (i : Nat), Vals vs us → (vs[i]? = none ∧ us[i]? = none) ∨ ∃ v u, vs[i]? = some v ∧ us[i]? = some u ∧ RelV v u
  | _, _, i, .nil => .inl ⟨by simp, by simp⟩
  | _, _, 0, .cons h t => .inr ⟨_, _, by simp, by simp, h⟩
  | _, _, i + 1, .cons h t => by
    rcases vals_at i t with ⟨a, b⟩ | ⟨v, u, a, b, r⟩
    · exact .inl ⟨by simpa using a, by simpa using b⟩
    · exact .inr ⟨v, u, by simpa using a, by simpa using b, r⟩
theorem vals_pm {vs : List V} {us : List Value} (h : Vals vs us) : ∀ is : List Nat, Vals (pm is vs) (pm is us)
  | [] => .nil
  | i :: is => by
    have t := vals_pm h is
    unfold pm at t ⊢
    rw [List.filterMap_cons, List.filterMap_cons]
    rcases vals_at i h with ⟨a, b⟩ | ⟨v, u, a, b, r⟩
    · rw [a, b]
      exact t
    · rw [a, b]
      exact .cons r t
theorem vas_at {K : PySem.W.Frag} {H : Hp} {w : Wd} {vs : List V} {rs : List Ent} (i : Nat) (h : Vas K H w vs rs) : (vs[i]? = none ∧ rs[i]? = none) ∨ ∃ v r, vs[i]? = some v ∧ rs[i]? = some r ∧ Val K H w v r := by
  rcases Nat.lt_or_ge i vs.length with hi | hi
  · have hj : i < rs.length := by rw [← h.1]; exact hi
    exact .inr ⟨vs[i], rs[i], by simp [hi], by simp [hj], h.2 i _ _ (by simp [hi]) (by simp [hj])⟩
  · have hj : rs.length ≤ i := by rw [← h.1]; exact hi
    exact .inl ⟨by simp [hi], by simp [hj]⟩
theorem vas_pm {K : PySem.W.Frag} {H : Hp} {w : Wd} {vs : List V} {rs : List Ent} (h : Vas K H w vs rs) : ∀ is : List Nat, Vas K H w (pm is vs) (pm is rs)
  | [] => .nil
  | i :: is => by
    have t := vas_pm h is
    unfold pm at t ⊢
    rw [List.filterMap_cons, List.filterMap_cons]
    rcases vas_at i h with ⟨a, b⟩ | ⟨v, u, a, b, r⟩
    · rw [a, b]
      exact t
    · rw [a, b]
      exact .cons r t
structure CalK (P : Program) (w : World) (K : PySem.W.Frag) (mg : Str → Option Value) (base : Heap) (n : Str) (ks : List Str) (is : List Nat) (k : Nat) (ps : List Str) (C : Con) : Prop where
  ex : ∃ f fd, FnOk P w K mg base CX0 k f fd ps (SpV K ps C) ∧ mg n = some (.ref f) ∧ PySem.W.keepIn K (.ref f) = true ∧ KBn K fd ps 0 ks (fun us ws => us ++ pm is ws) (fun vs zs => vs ++ pm is zs)
section
variable {w : World} {P : Program} {K : PySem.W.Frag} {base : Heap} {mg : Str → Option Value}
theorem kbnP {x qual : Str} {st : Stmt} {f : Addr} {fd : FuncData} {ps ks : List Str} {is : List Nat} {n : Nat} (F : Fun K x qual st f fd)
    (h : ∀ (kV doc pm' : Value) (an : Option Addr) (cdv ct : Value) (us ws : List Value), us.length = n → ws.length = ks.length → bindArgs (PySem.W.fnOf x qual (defArgs st) (defBody st) (defScope st) .none kV doc pm' an cdv ct) ⟨us, ks.zip ws⟩ = pure (ps.zip (us ++ pm is ws))) : KBn K fd ps n ks (fun us ws => us ++ pm is ws) (fun vs zs => vs ++ pm is zs) := by
  obtain ⟨oc, od, kV, doc, pm', an, cdv, ct, osl, rfl, lk, hcd⟩ := F.ex
  exact ⟨fun s us ws _ l1 l2 => .of_eq (h kV doc pm' an cdv ct us ws l1 l2), fun r1 r2 => r1.append (vals_pm r2 is)⟩
/-- a def by place and by name -/
theorem Df.calKB {x : Str} {st : Stmt} {N ps ks : List Str} {is : List Nat} {k : Nat} {C : Con} (D : Df K mg x st) (Sc : FnScope N ps (defScope st))
    (hb : ∀ (kV doc pm : Value) (an : Option Addr) (cdv ct : Value) (us : List Value), us.length = ps.length → bindArgs (PySem.W.fnOf x x (defArgs st) (defBody st) (defScope st) .none kV doc pm an cdv ct) ⟨us, []⟩ = pure (ps.zip us))
    (hkb : ∀ (kV doc pm' : Value) (an : Option Addr) (cdv ct : Value) (us ws : List Value), us.length = 0 → ws.length = ks.length → bindArgs (PySem.W.fnOf x x (defArgs st) (defBody st) (defScope st) .none kV doc pm' an cdv ct) ⟨us, ks.zip ws⟩ = pure (ps.zip (us ++ pm is ws)))
    (hN : ps.length ≤ N.length) (hlen : ∀ rs μ r μ', C rs μ r μ' → rs.length = ps.length ∧ μ'.length = μ.length)
    (body : ∀ (f : Addr) (cdv : Value) (A : Around) (outer : List Env) (s : Shared) (H : Hp) (E : XK), Room k (A.deeper (envOfC x (defScope st) s.heap.objs.size f cdv)) → ∀ rs μ r μ', C rs μ r μ' →
      ST (cxOf CX0 P w K mg base N x (defScope st) f cdv A outer s H E).nox W0 μ.length (defBody st) (rs.map some ++ List.replicate (N.length - rs.length) none) μ (PostR r μ')) : Cal P w K mg base x (k + 1) ps C ∧ CalK P w K mg base x ks is (k + 1) ps C := by
  obtain ⟨f, fd, F, hm⟩ := D.ex
  have ok := fn_mk F Sc hN hlen fun cdv A outer s H E hr rs μ r μ' hC => body f cdv A outer s H E hr rs μ r μ' hC
  exact ⟨⟨f, fd, ok, hm, F.kp, F.binds hb⟩, ⟨f, fd, ok, hm, F.kp, kbnP F hkb⟩⟩
end
section
variable {X : Cx} {ρ : REnv} {μ μ1 μ2 μ3 μ4 : Sto} {e1 e2 e3 : Expr} {pos p q1 q2 q3 : Pos} {k1 k2 k3 n : Str} {r1 r2 r3 r : Ent} {is : List Nat} {k : Nat} {ps : List Str} {C : Con}
theorem EV.callK1 (F : CalK X.prog X.w X.K X.mg X.base n [k1] is k ps C) (hr : Room k X.A) (h1 : EV X e1 ρ μ r1 μ1) (hC : C (pm is [r1]) μ1 r μ3) (hl : (pm is [r1]).length = ps.length := by rfl) (hg : Gl X n := by rfl) (hdb : (n == ("__debug__" : Str)) = false := by decide)
    (hall : (backToKw pos (keywordEach [⟨some k1, e1, q1⟩] X.env)).all (·.1.isSome) = true := by rfl) (hks : (backToKw pos (keywordEach [⟨some k1, e1, q1⟩] X.env)).filterMap (·.1) = [k1] := by rfl)
    (hpl : ((backTo pos (starEach [] X.env)).any (·.1) || (backToKw pos (keywordEach [⟨some k1, e1, q1⟩] X.env)).any (·.1.isNone)) = false := by rfl) : EV X (.Call (.Name n p) [] [⟨some k1, e1, q1⟩] pos) ρ μ r μ3 := by
  intro w σ H m s Q q
  obtain ⟨f, fd, G, hm, hk, bi⟩ := F.ex
  refine ⟨fun σ H Q => tCons (EX X e1) tNil σ H fun zs H2 => zs.length = 1 ∧ (SpV X.K ps C) (pm is zs) H2 Q E0, ⟨fun pins s0 σ0 H0 Q0 I h => ?_⟩, ?_⟩
  · refine wpAny_Call_Name_kw (ld_glob I hg hm ?_ hdb)
    refine PySem.W.callWith_KW0 (first := []) (h₀ := X.base) I.ok.mod.kin hk hall ?_ hpl
    refine thn ((pk_cons (p_ex (e := e1)) pk_nil).run pos pins s0 σ0 H0 _ I h) fun ws s1 ⟨zs, H1, I1, rz, hl1, z⟩ => ⟨I1.kIn, ?_⟩
    rw [hks]
    exact run_fnN (us := []) (vs := []) G hr bi pass0 I1 .nil rz rfl hl1 z
  · refine h1 w σ H m s _ fun v1 H1 m1 f1 w1 => ?_
    refine ⟨rfl, w, μ1, pm is [r1], r, μ3, m1, vas_pm (.cons w1 .nil) is, hl, hC, fun v H' m3 f3 h3 => q v H' m3 (f1.trans f3) h3⟩
theorem EV.callK2 (F : CalK X.prog X.w X.K X.mg X.base n [k1, k2] is k ps C) (hr : Room k X.A) (h1 : EV X e1 ρ μ r1 μ1) (h2 : EV X e2 ρ μ1 r2 μ2) (hC : C (pm is [r1, r2]) μ2 r μ3) (hl : (pm is [r1, r2]).length = ps.length := by rfl) (hg : Gl X n := by rfl) (hdb : (n == ("__debug__" : Str)) = false := by decide)
    (hall : (backToKw pos (keywordEach [⟨some k1, e1, q1⟩, ⟨some k2, e2, q2⟩] X.env)).all (·.1.isSome) = true := by rfl) (hks : (backToKw pos (keywordEach [⟨some k1, e1, q1⟩, ⟨some k2, e2, q2⟩] X.env)).filterMap (·.1) = [k1, k2] := by rfl)
    (hpl : ((backTo pos (starEach [] X.env)).any (·.1) || (backToKw pos (keywordEach [⟨some k1, e1, q1⟩, ⟨some k2, e2, q2⟩] X.env)).any (·.1.isNone)) = false := by rfl) : EV X (.Call (.Name n p) [] [⟨some k1, e1, q1⟩, ⟨some k2, e2, q2⟩] pos) ρ μ r μ3 := by
  intro w σ H m s Q q
  obtain ⟨f, fd, G, hm, hk, bi⟩ := F.ex
  refine ⟨fun σ H Q => tCons (EX X e1) (tCons (EX X e2) tNil) σ H fun zs H2 => zs.length = 2 ∧ (SpV X.K ps C) (pm is zs) H2 Q E0, ⟨fun pins s0 σ0 H0 Q0 I h => ?_⟩, ?_⟩
  · refine wpAny_Call_Name_kw (ld_glob I hg hm ?_ hdb)
    refine PySem.W.callWith_KW0 (first := []) (h₀ := X.base) I.ok.mod.kin hk hall ?_ hpl
    refine thn ((pk_cons (p_ex (e := e1)) (pk_cons (p_ex (e := e2)) pk_nil)).run pos pins s0 σ0 H0 _ I h) fun ws s1 ⟨zs, H1, I1, rz, hl1, z⟩ => ⟨I1.kIn, ?_⟩
    rw [hks]
    exact run_fnN (us := []) (vs := []) G hr bi pass0 I1 .nil rz rfl hl1 z
  · refine h1 w σ H m s _ fun v1 H1 m1 f1 w1 => ?_
    refine h2 w σ H1 m1 (s.fr f1) _ fun v2 H2 m2 f2 w2 => ?_
    refine ⟨rfl, w, μ2, pm is [r1, r2], r, μ3, m2, vas_pm (.cons (w1.fr f2) (.cons w2 .nil)) is, hl, hC, fun v H' m3 f3 h3 => q v H' m3 ((f1.trans f2).trans f3) h3⟩
theorem EV.callK3 (F : CalK X.prog X.w X.K X.mg X.base n [k1, k2, k3] is k ps C) (hr : Room k X.A) (h1 : EV X e1 ρ μ r1 μ1) (h2 : EV X e2 ρ μ1 r2 μ2) (h3 : EV X e3 ρ μ2 r3 μ3) (hC : C (pm is [r1, r2, r3]) μ3 r μ4) (hl : (pm is [r1, r2, r3]).length = ps.length := by rfl) (hg : Gl X n := by rfl) (hdb : (n == ("__debug__" : Str)) = false := by decide)
    (hall : (backToKw pos (keywordEach [⟨some k1, e1, q1⟩, ⟨some k2, e2, q2⟩, ⟨some k3, e3, q3⟩] X.env)).all (·.1.isSome) = true := by rfl) (hks : (backToKw pos (keywordEach [⟨some k1, e1, q1⟩, ⟨some k2, e2, q2⟩, ⟨some k3, e3, q3⟩] X.env)).filterMap (·.1) = [k1, k2, k3] := by rfl)
    (hpl : ((backTo pos (starEach [] X.env)).any (·.1) || (backToKw pos (keywordEach [⟨some k1, e1, q1⟩, ⟨some k2, e2, q2⟩, ⟨some k3, e3, q3⟩] X.env)).any (·.1.isNone)) = false := by rfl) : EV X (.Call (.Name n p) [] [⟨some k1, e1, q1⟩, ⟨some k2, e2, q2⟩, ⟨some k3, e3, q3⟩] pos) ρ μ r μ4 := by
  intro w σ H m s Q q
  obtain ⟨f, fd, G, hm, hk, bi⟩ := F.ex
  refine ⟨fun σ H Q => tCons (EX X e1) (tCons (EX X e2) (tCons (EX X e3) tNil)) σ H fun zs H2 => zs.length = 3 ∧ (SpV X.K ps C) (pm is zs) H2 Q E0, ⟨fun pins s0 σ0 H0 Q0 I h => ?_⟩, ?_⟩
  · refine wpAny_Call_Name_kw (ld_glob I hg hm ?_ hdb)
    refine PySem.W.callWith_KW0 (first := []) (h₀ := X.base) I.ok.mod.kin hk hall ?_ hpl
    refine thn ((pk_cons (p_ex (e := e1)) (pk_cons (p_ex (e := e2)) (pk_cons (p_ex (e := e3)) pk_nil))).run pos pins s0 σ0 H0 _ I h) fun ws s1 ⟨zs, H1, I1, rz, hl1, z⟩ => ⟨I1.kIn, ?_⟩
    rw [hks]
    exact run_fnN (us := []) (vs := []) G hr bi pass0 I1 .nil rz rfl hl1 z
  · refine h1 w σ H m s _ fun v1 H1 m1 f1 w1 => ?_
    refine h2 w σ H1 m1 (s.fr f1) _ fun v2 H2 m2 f2 w2 => ?_
    refine h3 w σ H2 m2 ((s.fr f1).fr f2) _ fun v3 H3 m3 f3 w3 => ?_
    refine ⟨rfl, w, μ3, pm is [r1, r2, r3], r, μ4, m3, vas_pm (.cons ((w1.fr f2).fr f3) (.cons (w2.fr f3) (.cons w3 .nil))) is, hl, hC, fun v H' m4 f4 h4 => q v H' m4 (((f1.trans f2).trans f3).trans f4) h4⟩
end
end J
/-! J61: objects with several fields, made by keywords. -/
namespace J
open PySem PySem.Spec
open PyProof.Rows L2
variable [KC]
theorem vas_same {K : PySem.W.Frag} {H H2 : Hp} {w w2 : Wd} {vs : List V} {rs : List Ent} (hα : w2.α = w.α) (h1 : Vas K H w vs rs) (g : Same (dl H w.all) (dl H2 w2.all)) : Vas K H2 w2 vs rs := by
  refine ⟨h1.1, fun i v r a b => ?_⟩
  have hv := h1.2 i v r a b
  cases r with
  | dat d => exact dq_mono g _ _ hv
  | ptr k =>
    obtain ⟨y, a1, a2⟩ := hv
    exact ⟨y, by rw [hα]; exact a1, a2⟩
  | obj C2 fs2 =>
    obtain ⟨y, dy, ws, a1, a2, a3, a4⟩ := hv
    exact ⟨y, dy, ws, a1, g _ _ a2, a3, dqAll_mono g _ _ a4⟩
  | scr ns =>
    obtain ⟨y, a1, a2⟩ := hv
    refine ⟨y, a1, ?_⟩
    rcases a2 with (a2 | ⟨o, a2⟩) | a2
    · exact .inl (.inl (g _ _ a2))
    · exact .inl (.inr ⟨o, g _ _ a2⟩)
    · exact .inr a2
  | raw u => exact hv
  | exc a d fs2 =>
    obtain ⟨a1, ws, a2, a3, a4⟩ := hv
    exact ⟨a1, ws, g _ _ a2, a3, dqAll_mono g _ _ a4⟩
/-- from the arguments to the new object -/
theorem make_tail {K : PySem.W.Frag} {H1 : Hp} {w : Wd} {μ1 : Sto} {x dx C : Addr} {vs : List V} {rs : List Ent} {fs : List (Str × PyData)} {con : List Ent → Sto → List (Str × PyData) → Prop} {Q : VK} {E : XK} (m1 : Mem K H1 w μ1) (h1 : Vas K H1 w vs rs) (hC : con rs μ1 fs) (hx : H1 x = none) (hdx : H1 dx = none) (hne : dx ≠ x)
    (q : ∀ v H2, Mem K H2 w μ1 → Fr w.α H1 H2 → Val K H2 w v (.obj C fs) → Q v H2) : spInitF K C con (.ref x :: vs) (upd (upd H1 dx (.own x)) x (.ins C dx [])) (fun v H2 => v = .non ∧ Q (.ref x) H2) E := by
  have hS : Same H1 (upd (upd H1 dx (.own x)) x (.ins C dx [])) := fun b u eb => by
    rw [upd_ne (ne_of_none eb hx), upd_ne (ne_of_none eb hdx)]
    exact eb
  have g := keep_out (K := K) (w := w) hx (Fr.of_same hS) ⟨_, upd_same⟩
  refine ⟨x, dx, vs, w, μ1, rs, fs, rfl, make_mem m1 hx hdx hne, vas_same (w := w) (w2 := wk' w x) rfl h1 g, ⟨[], upd_same, rfl, .nil⟩, hC, fun H2 m2 f2 i2 => ⟨rfl, ?_⟩⟩
  obtain ⟨ws, e2, n2, d2⟩ := i2
  have hxa : x ∉ w.all := m1.freshA hx
  exact q (.ref x) H2 m2.unkeep (fun b o eb nb nt => f2 b o (ne_of_none eb hx) (hS b o eb) nb nt) ⟨x, dx, ws, rfl, dl_of hxa e2, n2, dqAll_mono (dl_sub fun b hb => all_wk'.mpr (.inr hb)) _ _ d2⟩
structure MakFK (P : Program) (w : World) (K : PySem.W.Frag) (mg : Str → Option Value) (base : Heap) (n : Str) (C : Addr) (ks : List Str) (is : List Nat) (k : Nat) (ps : List Str) (con : List Ent → Sto → List (Str × PyData) → Prop) : Prop where
  ex : ∃ g fd, FnOk P w K mg base CX0 k g fd ps (spInitF K C con) ∧ Mk K C g ∧ mg n = some (.ref C) ∧ KBn K fd ps 1 ks (fun us ws => us ++ pm is ws) (fun vs zs => vs ++ pm is zs)
section
variable {X : Cx} {ρ : REnv} {μ μ1 μ2 μ3 : Sto} {e1 e2 e3 : Expr} {pos p q1 q2 q3 : Pos} {k1 k2 k3 n : Str} {r1 r2 r3 : Ent} {is : List Nat} {k : Nat} {ps : List Str} {C : Addr} {fs : List (Str × PyData)} {con : List Ent → Sto → List (Str × PyData) → Prop}
theorem EV.makeFK3 (M : MakFK X.prog X.w X.K X.mg X.base n C [k1, k2, k3] is k ps con) (hr : Room (k + 1) X.A) (h1 : EV X e1 ρ μ r1 μ1) (h2 : EV X e2 ρ μ1 r2 μ2) (h3 : EV X e3 ρ μ2 r3 μ3) (hC : con (pm is [r1, r2, r3]) μ3 fs) (hg : Gl X n := by rfl) (hdb : (n == ("__debug__" : Str)) = false := by decide)
    (hall : (backToKw pos (keywordEach [⟨some k1, e1, q1⟩, ⟨some k2, e2, q2⟩, ⟨some k3, e3, q3⟩] X.env)).all (·.1.isSome) = true := by rfl) (hks : (backToKw pos (keywordEach [⟨some k1, e1, q1⟩, ⟨some k2, e2, q2⟩, ⟨some k3, e3, q3⟩] X.env)).filterMap (·.1) = [k1, k2, k3] := by rfl)
    (hpl : ((backTo pos (starEach [] X.env)).any (·.1) || (backToKw pos (keywordEach [⟨some k1, e1, q1⟩, ⟨some k2, e2, q2⟩, ⟨some k3, e3, q3⟩] X.env)).any (·.1.isNone)) = false := by rfl) : EV X (.Call (.Name n p) [] [⟨some k1, e1, q1⟩, ⟨some k2, e2, q2⟩, ⟨some k3, e3, q3⟩] pos) ρ μ (.obj C fs) μ3 := by
  intro w σ H m s Q q
  obtain ⟨g, fd, F, mk, hm, bi⟩ := M.ex
  refine ⟨_, pe_makeK0 (E := E0) mk F hr hg hm bi pass0 (pk_cons (p_ex (e := e1)) (pk_cons (p_ex (e := e2)) (pk_cons (p_ex (e := e3)) pk_nil))) hall hks hdb hpl, ?_⟩
  refine h1 w σ H m s _ fun v1 H1 m1 f1 w1 => ?_
  refine h2 w σ H1 m1 (s.fr f1) _ fun v2 H2 m2 f2 w2 => ?_
  refine h3 w σ H2 m2 ((s.fr f1).fr f2) _ fun v3 H3 m3 f3 w3 => ?_
  refine ⟨rfl, rfl, fun x dx hx hdx hne => ?_⟩
  exact make_tail m3 (vas_pm (.cons ((w1.fr f2).fr f3) (.cons (w2.fr f3) (.cons w3 .nil))) is) hC hx hdx hne fun v H4 m4 f4 h4 => q v H4 m4 (((f1.trans f2).trans f3).trans f4) h4
end
end J
/-! J44: the program's own exceptions, under ValueError, LookupError or ArithmeticError alike. -/
namespace PySem
namespace OG
open PySem.Calls PyProof.Rows Builtin Builtin.ObjectAttr
/-- the line of a built-in class of errors -/
def lineOf (B : String) : List Value := .type B :: [.type "Exception", .type "BaseException", .type "object"]
/-- own classes ahead of such a line -/
def ownLine (B : String) : List Value → Bool
  | .ref _ :: more => ownLine B more
  | line => line == lineOf B
theorem ownLine_split {B : String} : ∀ l : List Value, ownLine B l = true → (∃ a more, l = .ref a :: more ∧ ownLine B more = true) ∨ l = lineOf B := by
  intro l e
  match l, e with
  | .ref a :: more, e => exact .inl ⟨a, more, rfl, e⟩
  | [], e => exact .inr (beq_iff_eq.mp e)
  | .none :: _, e | .ellipsis :: _, e | .notImplemented :: _, e | .bool _ :: _, e | .int _ _ :: _, e | .float _ _ :: _, e | .str _ _ :: _, e | .bytes _ _ :: _, e | .type _ :: _, e | .builtin _ :: _, e => exact .inr (beq_iff_eq.mp e)
/-- what making and storing want to know of the classes behind an own one -/
structure Under (line : List Value) (make : String) : Prop where
  base : ∃ (B : String) (init : String) (tail : List Value), ExcBaseFacts B make init tail ∧ ∀ Y : String, line.contains (.type Y) = tail.contains (.type Y)
  free : ∀ self : Value, refuseLoop self "__setattr__" line = pure ()
  some_ : line.isEmpty = false
theorem Under.obj {line : List Value} {make : String} (U : Under line make) (h : line.contains (.type "object") = true) : line.contains (.type "object") = true := h
theorem under_line {B init make : String} (F0 : ExcBaseFacts B make init (lineOf B)) (p : ∀ self : Value, refuseLoop self "__setattr__" (lineOf B) = pure ()) : ∀ line : List Value, ownLine B line = true → Under line make ∧ line.contains (.type "object") = true := by
  intro line
  induction line with
  | nil => intro e; cases (beq_iff_eq.mp e : [] = lineOf B)
  | cons a more ih =>
    intro e
    rcases ownLine_split (a :: more) e with ⟨a', more', q, h⟩ | q
    · obtain ⟨rfl, rfl⟩ := List.cons.inj q
      obtain ⟨⟨⟨B', i', t', G, hY⟩, hp, _⟩, hobj⟩ := ih h
      refine ⟨⟨⟨B', i', t', G, fun Y => ?_⟩, fun self => ?_, rfl⟩, ?_⟩
      · rw [List.contains_cons, hY Y]
        rfl
      · rw [refuseLoop_ref]
        exact hp self
      · rw [List.contains_cons, hobj, Bool.or_true]
    · rw [q]
      exact ⟨⟨⟨B, init, lineOf B, F0, fun Y => rfl⟩, p, rfl⟩, by
        unfold lineOf
        simp⟩
theorem under_of {B make : String} {line : List Value} (h : (B = "ValueError" ∧ make = "ValueError.__new__") ∨ (B = "LookupError" ∧ make = "LookupError.__new__") ∨ (B = "ArithmeticError" ∧ make = "ArithmeticError.__new__")) (e : ownLine B line = true) : Under line make ∧ line.contains (.type "object") = true := by
  rcases h with ⟨rfl, rfl⟩ | ⟨rfl, rfl⟩ | ⟨rfl, rfl⟩
  · exact under_line F.excBase_ValueError (fun self => by kernel_rfl) line e
  · exact under_line F.excBase_LookupError (fun self => by kernel_rfl) line e
  · exact under_line F.excBase_ArithmeticError (fun self => by kernel_rfl) line e
section
variable {pr : Program} {wo : World} {Ar : Around} {Rq : Result → Shared → Prop} {u0 : Heap} {gs : Array GenState} {dr : Drawn} {tm : Nat} {oz : OsState}
/-- object.__setattr__ of an exception's first attribute -/
theorem put_first {K : W.Frag} {y : Str} {tk : Tok} {val : Value} {e C : Addr} {parts : Array Value} {cd : ClassData} {make : String}
    (X : K.In u0) (at_ : u0.get? e = some { cls := .ref C, data := .fields parts }) (cls : W.clsIn K C = some cd) (U : Under cd.mro make) (ob : cd.mro.contains (.type "object") = true) (dic : cd.hasDict = true) (no : W.findIn K (.ref C) y = some none)
    (goal : ∀ u1 tk1 dx, (∀ b o, b ≠ e → u0.get? b = some o → u1.get? b = some o) → u0.objs.size ≤ dx → dx ≠ e → u1.get? e = some { cls := .ref C, dict := some dx, data := .fields parts } →
      u1.Ns1 dx (fun z => if z = y then some val else none) → Rq (.ok (.ret .none)) ⟨u1, gs, dr, tk1, oz⟩) :
    codeAny (model pr wo) Ar (.call (.builtin "object.__setattr__") ⟨[.ref e, .str y tk, val], []⟩) Rq ⟨u0, gs, dr, tm, oz⟩ := by
  have In0 : W.InstAt u0 e { cls := .ref C, data := .fields parts } C none := ⟨at_, rfl, rfl, trivial⟩
  have St := F.store_object
  have far : e ≠ u0.objs.size := Nat.ne_of_lt (Heap.lt_size at_)
  have isO : W.Looks (model pr wo) u0 (isInstance (.ref e) (.type "object")) true := In0.type.andThen (W.looks_mroIn X (by
    unfold W.mroIn
    rw [cls, Option.bind_some, if_neg (by rw [U.some_]; decide), ob]))
  refine codeAny_call_builtin St.slot.plain St.entry ?_
  refine @W.check_slot (model pr wo) _ _ ⟨u0, gs, dr, tm, oz⟩ "object.__setattr__" "object" "__setattr__" (.ref e) [.str y tk, val] [] _ St.kind St.split isO (St.args (.ref e) (.str y tk) val) ?_
  have order : W.Looks (model pr wo) u0 (mroOf (.ref C)) cd.mro := (W.looks_clsIn X cls).andThen .now
  have noTaker : W.Looks (model pr wo) u0 (storeTaker? none) none := .now
  have theCls : W.Looks (model pr wo) u0 (classData C) cd := W.looks_clsIn X cls
  rw [W.osa_eq, refuse_eq]
  refine wpAny_bind (wpAny_bind (In0.type.at (wpAny_bind (order.at ?_))))
  rw [U.free]
  refine wpAny_pure (wpAny_bind (In0.type.at (wpAny_bind ((W.looks_findIn X no).at (wpAny_bind (noTaker.at ?_))))))
  show wpAny _ _ (storeInOwnDict (.ref e) (.ref C) (.str y tk) y val false) _ _ _
  obtain ⟨_, _, _, _, _, hd, _, _, _, _, _⟩ := cd
  dsimp only at dic
  subst dic
  unfold storeInOwnDict ownDictForStores
  repeat (first
    | with_reducible refine HandSPX.store_in_new ?_ ?_
    | with_reducible refine wpAny_loadPart_at at_ ?_
    | with_reducible refine theCls.at ?_
    | wp_step)
  · exact ⟨_, #[], _, (Heap.get?_update_ne _ _ _ _ far.symm).trans (Heap.get?_push_at rfl rfl), rfl, (fun z hz => absurd hz (by simp)), fun _ => rfl⟩
  · intro u1 tk1 ns same
    have e1 : (u0.push { cls := .type "dict", data := .dict #[] }).get? e = some { cls := .ref C, data := .fields parts } := Heap.get?_push_of_some _ at_
    refine goal u1 tk1 u0.objs.size (fun b o nb eo => ?_) (Nat.le_refl _) far.symm ?_ ns
    · have nb2 : b ≠ u0.objs.size := Nat.ne_of_lt (Heap.lt_size eo)
      exact (same.2 b nb2).trans ((Heap.get?_update_ne _ _ _ _ nb).trans (Heap.get?_push_of_some _ eo))
    · exact (same.2 e far).trans (Heap.get?_update_self _ e1 rfl)
/-- a further attribute -/
theorem put_more {K : W.Frag} {y : Str} {tk : Tok} {val : Value} {e C dx : Addr} {parts : Array Value} {cd : ClassData} {make : String} {m0 : Str → Option Value} {known : List Str}
    (X : K.In u0) (at_ : u0.get? e = some { cls := .ref C, dict := some dx, data := .fields parts }) (ns0 : u0.Ns1 dx m0) (wi : Within m0 known) (few : known.length ≤ 1000) (cls : W.clsIn K C = some cd) (U : Under cd.mro make) (ob : cd.mro.contains (.type "object") = true) (dic : cd.hasDict = true) (no : W.findIn K (.ref C) y = some none)
    (goal : ∀ u1 tk1, (∀ b o, b ≠ dx → u0.get? b = some o → u1.get? b = some o) → u1.Ns1 dx (fun z => if z = y then some val else m0 z) → Rq (.ok (.ret .none)) ⟨u1, gs, dr, tk1, oz⟩) :
    codeAny (model pr wo) Ar (.call (.builtin "object.__setattr__") ⟨[.ref e, .str y tk, val], []⟩) Rq ⟨u0, gs, dr, tm, oz⟩ := by
  obtain ⟨dO, _, _, hdO, _, _⟩ := ns0.count wi
  have In0 : W.InstAt u0 e { cls := .ref C, dict := some dx, data := .fields parts } C (some dO) := ⟨at_, rfl, rfl, hdO⟩
  have St := F.store_object
  have isO : W.Looks (model pr wo) u0 (isInstance (.ref e) (.type "object")) true := In0.type.andThen (W.looks_mroIn X (by
    unfold W.mroIn
    rw [cls, Option.bind_some, if_neg (by rw [U.some_]; decide), ob]))
  refine codeAny_call_builtin St.slot.plain St.entry ?_
  refine @W.check_slot (model pr wo) _ _ ⟨u0, gs, dr, tm, oz⟩ "object.__setattr__" "object" "__setattr__" (.ref e) [.str y tk, val] [] _ St.kind St.split isO (St.args (.ref e) (.str y tk) val) ?_
  have order : W.Looks (model pr wo) u0 (mroOf (.ref C)) cd.mro := (W.looks_clsIn X cls).andThen .now
  have noTaker : W.Looks (model pr wo) u0 (storeTaker? none) none := .now
  have theCls : W.Looks (model pr wo) u0 (classData C) cd := W.looks_clsIn X cls
  rw [W.osa_eq, refuse_eq]
  refine wpAny_bind (wpAny_bind (In0.type.at (wpAny_bind (order.at ?_))))
  rw [U.free]
  refine wpAny_pure (wpAny_bind (In0.type.at (wpAny_bind ((W.looks_findIn X no).at (wpAny_bind (noTaker.at ?_))))))
  show wpAny _ _ (storeInOwnDict (.ref e) (.ref C) (.str y tk) y val false) _ _ _
  obtain ⟨_, _, _, _, _, hd, _, _, _, _, _⟩ := cd
  dsimp only at dic
  subst dic
  unfold storeInOwnDict ownDictForStores
  repeat (first
    | with_reducible refine OEX.store_in_old ns0 wi few ?_
    | with_reducible refine wpAny_loadPart_at at_ ?_
    | with_reducible refine theCls.at ?_
    | wp_step)
  intro u1 tk1 ns same
  exact goal u1 tk1 (fun b o nb eo => (same.2 b nb).trans eo) ns
end
end OG
end PySem
/-! J45: raising them. -/
namespace J
open PySem PySem.Spec
open PyProof.Rows L2
variable [KC]
/-- an own class of errors, under one of the three -/
structure OexG (K : PySem.W.Frag) (C : Addr) : Prop where
  cls : ∃ nm q N bs bm sn sub ab col dd k0 k1 k2 k3 k5 make, K.lookup C = some (excClassObj nm q C N bs bm true sn sub ab col dd k0 k1 k2 k3 k5 make) ∧ OG.Under bm make ∧ bm.contains (.type "object") = true
  sa : PySem.W.findIn K (.ref C) "__setattr__" = some (some (.builtin "object.__setattr__"))
  exC : PySem.W.subIn K (.ref C) (.type "BaseException") = some true
  tyC : PySem.W.typeIn K (.ref C) = some (.type "type")
  kC : PySem.W.keepIn K (.ref C) = true
section
variable {X : Cx} {pins : List (Addr × Obj)} {σ : L2.St} {H : Hp} {s : Shared} {a C dx : Addr} {f : Str} {y : V} {u : Value} {fs : List (Str × V)} {Q : Unit → Shared → Prop} {E : Value → Shared → Prop} {A : Around}
theorem under_cons {K : PySem.W.Frag} {C : Addr} {bm : List Value} {make : String} (U : OG.Under bm make) : OG.Under (.ref C :: bm) make := by
  obtain ⟨⟨B, i, t, G, hY⟩, hp, _⟩ := U
  refine ⟨⟨B, i, t, G, fun Y => ?_⟩, fun self => ?_, rfl⟩
  · rw [List.contains_cons, hY Y]
    rfl
  · rw [refuseLoop_ref]
    exact hp self
/-- self.f = y, where nothing has been put -/
theorem ostG_new (T : OexG X.K C) (I : Inv X pins σ H s) (e : H a = some (exo a C none)) (no : PySem.W.findIn X.K (.ref C) f = some none) (ry : RelV y u)
    (goal : ∀ dx s', H dx = none → dx ≠ a → Inv X pins σ (upd (upd H dx (exd dx [(f, y)])) a (exo a C (some dx))) s' → Q () s') : wpAny (model X.prog X.w) A (setAttr (.ref a) f u) Q E s := by
  obtain ⟨nm, q, N, bs, bm, sn, sub, ab, col, dd, k0, k1, k2, k3, k5, make, lk, U, ob⟩ := T.cls
  obtain ⟨t1, eo⟩ := exo_at I.hok e
  obtain ⟨u0, gs, dr, tm, oz⟩ := s
  have cl : PySem.W.clsIn X.K C = some { name := nm, bases := bs, mro := .ref C :: bm, ns := N, qualname := q, hasDict := true, slotNames := sn, subclasses := sub, abstract := ab, collection := col, hasDel := false } := by
    unfold PySem.W.clsIn
    rw [lk]
  have inst : PySem.W.InstAt u0 a { cls := .ref C, dict := none, data := .fields #[.ref t1, .none, .none, .none, .bool false, .none] } C none := ⟨eo, rfl, rfl, trivial⟩
  refine PySem.W.set_plain I.kIn inst T.sa ?_
  refine OG.put_first I.kIn eo cl (under_cons (K := X.K) U) (by rw [List.contains_cons, ob, Bool.or_true]) rfl no fun u1 tk1 dx keep out ne at1 ns => ?_
  have free : H dx = none := I.hok.fresh out
  have other : ∀ {b : Addr} {o : Obj}, u0.get? b = some o → b ≠ dx := fun {b o} eb => Nat.ne_of_lt (Nat.lt_of_lt_of_le (Heap.lt_size eb) out)
  have nota : ∀ {b : Addr}, H b = none → b ≠ a := fun {b} n z => by rw [z, e] at n; cases n
  let H2 : Hp := upd (upd H dx (exd dx [(f, y)])) a (exo a C (some dx))
  have same : ∀ {b : Addr}, b ≠ a → b ≠ dx → H2 b = H b := fun {b} n1 n2 => by
    show upd (upd H dx (exd dx [(f, y)])) a (exo a C (some dx)) b = H b
    rw [upd_ne n1, upd_ne n2]
  have change : Un X.fs [] H H2 u0 u1 := {
    keep := fun b o eb n _ _ => keep b o (nota n) eb
    slot := fun b o eb n _ _ => ⟨o.slots, keep b o (nota n) eb⟩
    free := fun b o eb n _ => (same (nota n) (other eb)).trans n
    there := fun b o eb _ => by
      by_cases hb : b = a
      · subst hb
        exact ⟨_, at1⟩
      · exact ⟨o, keep b o hb eb⟩
    tups := fun b xs eb => (same (at_ne e eb exo_tup) (ne_of_none eb free)).trans eb
    frzs := fun b o v eb => (same (at_ne e eb exo_frz) (ne_of_none eb free)).trans eb
    tbls := fun b ps eb => ⟨#[], by rw [same (at_ne e eb exo_tbl) (ne_of_none eb free), eb]; simp⟩ }
  refine goal dx _ free ne (I.un (t' := tk1) change fun b o eb => ?_)
  by_cases h1 : b = a
  · subst h1
    have eb' : upd (upd H dx (exd dx [(f, y)])) b (exo b C (some dx)) b = some o := eb
    rw [upd_same] at eb'
    cases eb'
    exact exo_ok at1
  · by_cases h2 : b = dx
    · subst h2
      have eb' : upd (upd H b (exd b [(f, y)])) a (exo a C (some b)) b = some o := eb
      rw [upd_ne h1, upd_same] at eb'
      cases eb'
      exact exd_ok ns (relO_put (fs := []) ry fun g => True.intro)
    · have eb2 : H b = some o := (same h1 h2).symm.trans eb
      refine (I.hok b o eb2).stay (fun c v hc z => keep c v ?_ z) (fun c hc => ?_) (fun c xs hc => ?_)
      · rcases hc with hc | hc
        · rw [hc]
          exact h1
        · exact at_ne e hc exo_own
      · exact (same (at_ne e hc exo_own) (ne_of_none hc free)).trans hc
      · exact (same (at_ne e hc exo_tup) (ne_of_none hc free)).trans hc
/-- self.f = y, a further one -/
theorem ostG_more (T : OexG X.K C) (I : Inv X pins σ H s) (e : H a = some (exo a C (some dx))) (ed : H dx = some (exd dx fs)) (few : fs.length ≤ 900) (no : PySem.W.findIn X.K (.ref C) f = some none) (ry : RelV y u)
    (goal : ∀ s', Inv X pins σ (upd H dx (exd dx ((f, y) :: fs))) s' → Q () s') : wpAny (model X.prog X.w) A (setAttr (.ref a) f u) Q E s := by
  obtain ⟨nm, q, N, bs, bm, sn, sub, ab, col, dd, k0, k1, k2, k3, k5, make, lk, U, ob⟩ := T.cls
  obtain ⟨t1, eo⟩ := exo_at I.hok e
  obtain ⟨mA, ns0, rel⟩ := exd_at I.hok ed
  have wi := within_of rel
  obtain ⟨u0, gs, dr, tm, oz⟩ := s
  obtain ⟨dO, _, _, hdO, _, _⟩ := ns0.count wi
  have cl : PySem.W.clsIn X.K C = some { name := nm, bases := bs, mro := .ref C :: bm, ns := N, qualname := q, hasDict := true, slotNames := sn, subclasses := sub, abstract := ab, collection := col, hasDel := false } := by
    unfold PySem.W.clsIn
    rw [lk]
  have inst : PySem.W.InstAt u0 a { cls := .ref C, dict := some dx, data := .fields #[.ref t1, .none, .none, .none, .bool false, .none] } C (some dO) := ⟨eo, rfl, rfl, hdO⟩
  refine PySem.W.set_plain I.kIn inst T.sa ?_
  refine OG.put_more I.kIn eo ns0 wi (by rw [List.length_map]; omega) cl (under_cons (K := X.K) U) (by rw [List.contains_cons, ob, Bool.or_true]) rfl no fun u1 tk1 keep ns => ?_
  have there : ∃ o, u1.get? dx = some o := by
    obtain ⟨o, _, _, e', _⟩ := ns
    exact ⟨o, e'⟩
  have put := relO_put (f := f) ry rel
  exact goal _ (I.write (t' := tk1) (x := dx) (e := dx) (o := exd dx ((f, y) :: fs)) (by rw [ed]; exact True.intro) (.inl rfl) keep there (exd_ok ns put))
end
/-- self.f = e in the __init__ of an error -/
def tOsG (K : PySem.W.Frag) (f : Str) (to te : TE) : TS := fun D σ H => te σ H fun y H1 => to σ H1 fun x H2 => ∃ a C : Addr, x = .ref a ∧ OexG K C ∧ PySem.W.findIn K (.ref C) f = some none ∧
  ((H2 a = some (exo a C none) ∧ ∀ dx, H2 dx = none → dx ≠ a → D.nx σ (upd (upd H2 dx (exd dx [(f, y)])) a (exo a C (some dx)))) ∨
    ∃ (dx : Addr) (fs : List (Str × V)), H2 a = some (exo a C (some dx)) ∧ H2 dx = some (exd dx fs) ∧ fs.length ≤ 900 ∧ D.nx σ (upd H2 dx (exd dx ((f, y) :: fs))))
section
variable {X : Cx} {o e : Expr} {es : List Expr} {to te : TE} {ta : TA} {f : Str} {p p' pos : Pos}
theorem ps_osG (ho : PE X o to) (he : PE X e te) (sw : swapsWith e (some (.Attribute o f p')) pos.line X.env = pure false := by rfl) : PS X (.Assign [.Attribute o f p'] e pos) (tOsG X.K f to te) := by
  refine ⟨fun pins s σ H D I h => ?_⟩
  refine plainObj_wpAny_Assign_Attribute (thn (he.run pins s σ H _ I h) fun vu s1 ⟨y, H1, I1, ry, q1⟩ => ?_) sw
  refine thn (ho.run pins s1 σ H1 _ I1 q1) fun xu s2 ⟨x, H2, I2, rx, a, C, ex, T, no, q⟩ => ?_
  subst ex
  obtain rfl : xu = Value.ref a := rx
  rcases q with ⟨ea, q⟩ | ⟨dx, fs, ea, ed, few, q⟩
  · exact ostG_new T I2 ea no ry fun dx s' free ne J => ⟨σ, _, J, q dx free ne⟩
  · exact ostG_more T I2 ea ed few no ry fun s' J => ⟨σ, _, J, q⟩
/-- C(e, ..): its context is None -/
theorem pmk_oexG {Y : CXT} {x : Str} {C gI : Addr} {k : Nat} {fd : FuncData} {ps : List Str} {sp : Sp} (O : OexG X.K C) (hi : PySem.W.findIn X.K (.ref C) "__init__" = some (some (.ref gI))) (ht : PySem.W.typeIn X.K (.ref gI) = some (.type "function"))
    (Fn : FnOk X.prog X.w X.K X.mg X.base Y k gI fd ps sp) (room : Room (k + 1) X.A) (bi : Binds X.K fd ps []) (pass : Passes Y X (fun _ _ _ => False)) (glob : Gl X x) (mean : X.mg x = some (.ref C)) (args : PA X (e :: es) ta)
    (ndb : (x == ("__debug__" : Str)) = false := by decide) (st : starEach (e :: es) X.env = (false, eval e X.env) :: starEach es X.env := by rfl) (pl : (backTo pos (starEach es X.env)).any (·.1) = false := by rfl) :
    L2N.PMk X (.Call (.Name x p) (e :: es) [] pos) (tMkO C sp [] ta) := by
  intro pins s0 σ0 H0 Q J hh
  obtain ⟨c1, c2, c3, c4, c5, c6, c7, c8, c9, c10, c11, c12, c13, c14, c15, make, look, ⟨⟨B, iid, tail, G0, hY⟩, _, _⟩, _⟩ := O.cls
  refine wpAny_Call_Name_kw (ld_glob J glob mean ?_ ndb)
  refine PySem.W.callWith_K (h₀ := X.base) J.ok.mod.kin O.kC (thn (args.run pos pins s0 σ0 H0 _ J hh) fun vals t1 ⟨ws, G, J1, rel, _, want⟩ => ⟨J1.kIn, ?_⟩) st pl
  show wpAny _ _ (call (.ref C) vals) _ _ _
  obtain ⟨h1, gn, dw, tok, sys⟩ := t1
  have le1 : h1.objs.size ≤ h1.objs.size + 1 := Nat.le_succ _
  have want1 := want (h1.objs.size + 1) (J1.hok.fresh le1)
  rw [List.append_nil] at want1
  have keep1 : ∀ b u, h1.get? b = some u → ((h1.push (PySem.W.kdv_tup vals)).push (PySem.HandSPX.excO C h1.objs.size)).get? b = some u := fun b u z => Heap.get?_push_of_some _ (Heap.get?_push_of_some _ z)
  have made : ((h1.push (PySem.W.kdv_tup vals)).push (PySem.HandSPX.excO C h1.objs.size)).get? (h1.objs.size + 1) = some (PySem.HandSPX.excO C h1.objs.size) := by heap_get
  have J2 : Inv X pins σ0 (upd G (h1.objs.size + 1) (exo (h1.objs.size + 1) C none)) ⟨(h1.push (PySem.W.kdv_tup vals)).push (PySem.HandSPX.excO C h1.objs.size), gn, dw, tok, sys⟩ :=
    J1.laid (o := exo (h1.objs.size + 1) C none) (a := h1.objs.size + 1) (t' := tok) (h' := (h1.push (PySem.W.kdv_tup vals)).push (PySem.HandSPX.excO C h1.objs.size)) keep1 le1 (exo_ok made)
  have rel2 : Vals (V.ref (h1.objs.size + 1) :: ws) (Value.ref (h1.objs.size + 1) :: vals) := .cons rfl rel
  have many : (Value.ref (h1.objs.size + 1) :: vals ++ []).length = ps.length := by
    have z := rel2.length
    rw [Fn.len _ _ _ _ want1] at z
    rw [List.append_nil]
    exact z.symm
  have small : vals.length ≤ sizeLine := by
    rw [← Paired.length rel, sizeLine_eq]
    omega
  have bind2 := bi _ (Value.ref (h1.objs.size + 1) :: vals) J2.kIn many
  rw [List.append_nil] at bind2
  refine wpAny_call (PySem.HandSPX.call_own G0 hY (J1.kIn _ _ look) (PySem.W.looks_findIn J1.kIn hi) (fun self => PySem.W.bind_fn J1.kIn self ht) small
    (codeAny_mono (Fn.run _ X.stack _ _ ⟨Value.ref (h1.objs.size + 1) :: vals, []⟩ (Value.ref (h1.objs.size + 1) :: vals) _ _ (fun _ _ _ => False) (room.make C vals []) (J2.env0.make C vals []) bind2 rel2 want1) fun r t3 got => ?_))
  match r, got with
  | .error er, got => exact pass pins σ0 _ _ er t3 J2 got
  | .ok (.ret u), got =>
    obtain ⟨v, G2, os2, ag2, un2, ok2, rv, ev, dd, fs, ea, ed, free, q2⟩ := got
    subst ev
    obtain ⟨h2, gn2, dw2, tok2, sys2⟩ := t3
    obtain ⟨t0, G3, J3, k3, ne3, oe3, na3⟩ := mk_end0 (d2 := dw2) (t2 := tok2) J1 le1 keep1 un2 ok2 os2 ag2 ea ed free
    refine ⟨rv, h1.objs.size + 1, _, _, ⟨G3, gn2, dw2, tok2, sys2⟩, _, .ref C, some dd, rfl, J3, k3, ne3, oe3, ⟨rfl, rfl, fun vs z => ?_⟩, rfl, rfl, na3, rfl, ag2, raises_own O.exC O.tyC, q2⟩
    cases z
    rfl
end
/-- the __init__ of an error: self.f = f -/
theorem okXG {P : Program} {w : World} {K : PySem.W.Frag} {mg : Str → Option Value} {base : Heap} {C fI : Addr} {fd : FuncData} {qual f : Str} {st : Stmt} {p1 p2 p3 pos : Pos} (F : Fun K "__init__" qual st fI fd) (Sc : FnScope ["self", f] ["self", f] (defScope st)) (oe : OexG K C) (no : PySem.W.findIn K (.ref C) f = some none) (hb : defBody st = [.Assign [.Attribute (.Name "self" p1) f p2] (.Name f p3) pos])
    (hv : Vis (defScope st) f) (hv0 : Vis (defScope st) "self") (hd : (f == ("__debug__" : Str)) = false := by decide) (hcd : (f == ("__classdict__" : Str)) = false := by decide) : FnOk P w K mg base CX0 1 fI fd ["self", f] (spXI C f) := by
  refine F.ok Sc (fun vs H Q E h => ?_) (fun cdv A outer s H vs Q E hr h => ?_)
  · obtain ⟨a, v, rfl, _⟩ := h
    rfl
  · obtain ⟨a, v, rfl, ha, q⟩ := h
    rw [hb]
    refine ⟨_, pss_one (ps_osG (pe_var (i := 0) rfl hv0) (pe_var (i := 1) rfl hv hd hcd)), ?_⟩
    exact ⟨v, rfl, .ref a, rfl, a, C, rfl, oe, no, .inl ⟨ha, q⟩⟩
structure ExcG (P : Program) (w : World) (K : PySem.W.Frag) (mg : Str → Option Value) (base : Heap) (n : Str) (C : Addr) (f : Str) : Prop where
  oex : OexG K C
  at_ : mg n = some (.ref C)
  noF : PySem.W.findIn K (.ref C) f = some none
  ini : ∃ fI fd, PySem.W.findIn K (.ref C) "__init__" = some (some (.ref fI)) ∧ PySem.W.typeIn K (.ref fI) = some (.type "function") ∧ FnOk P w K mg base CX0 1 fI fd ["self", f] (spXI C f) ∧ Binds K fd ["self", f] []
section
variable {X : Cx} {W : WX} {ρ : REnv} {μ μ1 : Sto} {e : Expr} {pos p pos' : Pos} {d : PyData} {n f : Str} {C : Addr} {nn k : Nat} {P : Out → Prop} {rest : List Stmt}
/-- raise X(e) -/
theorem ST.raiseG (M : ExcG X.prog X.w X.K X.mg X.base n C f) (tk : L2N.Takes X W) (hr : Room k X.A) (ha : EV X e ρ μ (.dat d) μ1) (hP : P (.rse ρ μ1 C [(f, d)])) (hk : 2 ≤ k := by decide) (hc : X.calm = true := by rfl) (hg : Gl X n := by rfl)
    (hdb : (n == ("__debug__" : Str)) = false := by decide) (he : starEach [e] X.env = (false, eval e X.env) :: starEach [] X.env := by rfl) (hpl : (backTo pos (starEach [] X.env)).any (·.1) = false := by rfl) : ST X W nn (.Raise (some (.Call (.Name n p) [e] [] pos)) none pos' :: rest) ρ μ P := by
  intro w σ H D hn m s q
  obtain ⟨fI, fd, iC, tI, F, bi⟩ := M.ini
  refine ⟨_, pss_cons (L2N.ps_raise hc tk (pmk_oexG (Y := CX0) M.oex iC tI F (hr.mono hk) bi pass0 hg M.at_ (pa_cons (p_ex (e := e)) pa_nil he) hdb he hpl)) pss_never, ?_⟩
  refine ha w σ H m s _ fun v H1 m1 f1 hv => ?_
  refine ⟨by simp, fun a na => ⟨a, v, rfl, upd_same, fun dx hd hne => ⟨rfl, dx, [(f, v)], upd_same, ?_, ?_, ?_⟩⟩⟩
  · rw [upd_ne hne, upd_same]
  · rwa [upd_ne hne] at hd
  · have hd' : H1 dx = none := by rwa [upd_ne hne] at hd
    obtain ⟨m2, f2, x2⟩ := exc_end (f := f) (o1 := exo a C none) (o2 := exd dx [(f, v)]) (o3 := exo a C (some dx)) m1 hv na hd' hne
    exact Fin.rse0 (q _ hP) m2 ((s.fr f1).fr f2) (f1.trans f2) x2
end
end J
/-! J58: xs[a:b:c] of lists. -/
namespace J
open PySem PySem.Spec
open PyProof.Rows L2
variable [KC]
/-- the items of xs[lo:hi:st] -/
def pickD {α : Type} (xs : List α) (lo hi st : Option Int) : List α := (sliceRange (sliceBounds lo hi st xs.length).1 (sliceBounds lo hi st xs.length).2.1 (sliceBounds lo hi st xs.length).2.2).filterMap (xs[·]?)
theorem pickD_map {α β : Type} (f : α → β) (xs : List α) (lo hi st : Option Int) : pickD (xs.map f) lo hi st = (pickD xs lo hi st).map f := by
  unfold pickD
  rw [List.length_map, List.map_filterMap]
  congr 1
  funext i
  rw [List.getElem?_map]
theorem pick_pick (its : List Value) (lo hi st : Option Int) : slicePick its.toArray lo hi st = (pickD its lo hi st).toArray := by
  unfold slicePick pickD
  rw [List.size_toArray]
  congr 1
  congr 1
  funext i
  simp
theorem vals_pick {xs : List V} {us : List Value} (h : Vals xs us) (lo hi st : Option Int) : Vals (pickD xs lo hi st) (pickD us lo hi st) := by
  unfold pickD
  rw [h.length]
  have at_ : ∀ {vs : List V} {us : List Value} (i : Nat), Vals vs us → (vs[i]? = none ∧ us[i]? = none) ∨ ∃ v u, vs[i]? = some v ∧ us[i]? = some u ∧ RelV v u := by
    intro vs us i hv
    induction hv generalizing i with
    | nil => exact .inl ⟨by simp, by simp⟩
    | cons r t ih =>
      cases i with
      | zero => exact .inr ⟨_, _, by simp, by simp, r⟩
      | succ i =>
        rcases ih i with ⟨a, b⟩ | ⟨v, u, a, b, r⟩
        · exact .inl ⟨by simpa using a, by simpa using b⟩
        · exact .inr ⟨v, u, by simpa using a, by simpa using b, r⟩
  generalize sliceRange _ _ _ = is
  induction is with
  | nil => exact .nil
  | cons i is ih =>
    rw [List.filterMap_cons, List.filterMap_cons]
    rcases at_ i h with ⟨a, b⟩ | ⟨v, u, a, b, r⟩
    · rw [a, b]
      exact ih
    · rw [a, b]
      exact .cons r ih
theorem dq_pick {H : Hp} {vs : List V} {ds : List PyData} (h : DqAll H vs ds) (lo hi st : Option Int) : DqAll H (pickD vs lo hi st) (pickD ds lo hi st) := by
  unfold pickD
  rw [dqAll_len h]
  generalize sliceRange _ _ _ = is
  induction is with
  | nil => exact .nil
  | cons i is ih =>
    rw [List.filterMap_cons, List.filterMap_cons]
    cases e : ds[i]? with
    | none =>
      have e2 : vs[i]? = none := by
        rw [List.getElem?_eq_none_iff] at e ⊢
        rw [dqAll_len h]
        exact e
      rw [e2]
      exact ih
    | some d =>
      obtain ⟨v, e2, dv⟩ := dqAll_get h e
      rw [e2]
      exact .cons dv ih
theorem pick_le {α : Type} (xs : List α) (lo hi st : Option Int) : (pickD xs lo hi st).length ≤ (sliceRange (sliceBounds lo hi st xs.length).1 (sliceBounds lo hi st xs.length).2.1 (sliceBounds lo hi st xs.length).2.2).length := List.length_filterMap_le _ _
section
variable {X : Cx} {e : Expr} {lo hi st : Option Expr} {te : TE} {tl th ts : TO} {p2 pos : Pos}
theorem pe_slice3 (he : PE X e te) (hl : PO X lo tl) (hu : PO X hi th) (hs : PO X st ts) (hops : ∀ (v w : Value), subscripted (.Slice lo hi st p2) false v w = operate [v, w] (getItem v w) := by intro _ _; with_unfolding_all rfl) :
    PE X (.Subscript e (.Slice lo hi st p2) pos) (fun σ H Q => te σ H fun x H1 => tl σ H1 fun l H2 => th σ H2 fun u H3 => ts σ H3 fun k H4 => k ≠ some 0 ∧ ∃ a xs, x = .ref a ∧ SqL X.K H4 a xs ∧ (pickD xs l u k).length ≤ sizeLine ∧ ∀ p, H4 p = none → Q (.ref p) (upd H4 p (.lst (pickD xs l u k)))) := by
  refine ⟨fun pins s σ H Q I h => ?_⟩
  refine Subscript_ (thn (he.run pins s σ H _ I h) fun v s1 ⟨x, H1, I1, r1, q1⟩ => ?_)
  refine wpAny_Slice (thn (hl.run pins s1 σ H1 _ I1 q1) fun vl s2 ⟨l, H2, I2, pl, q2⟩ => thn (hu.run pins s2 σ H2 _ I2 q2) fun vu s3 ⟨u, H3, I3, pu, q3⟩ => thn (hs.run pins s3 σ H3 _ I3 q3) fun vk s4 ⟨k, H4, I4, pk, h0, a, xs, ex, hx, hw, q4⟩ => ?_)
  subst ex
  cases r1
  have I5 : Inv X pins σ H4 { s4 with heap := s4.heap.push { cls := .type "slice", data := .fields #[vl, vu, vk] } } := I4.kept (t' := s4.toks) fun b ob q => Heap.get?_push_of_some _ q
  obtain ⟨its, r, ht, hz⟩ := I5.list hx
  show wpAny (model X.prog X.w) X.A (subscriptTail e (.Slice lo hi st p2) (.ref a) (.ref s4.heap.objs.size)) (EP X pins σ Q) X.xe { s4 with heap := s4.heap.push { cls := .type "slice", data := .fields #[vl, vu, vk] } }
  refine tail_any (ops := [.ref a, .ref s4.heap.objs.size]) ht.isList.typeIs slot_list_getitem.lookup ?_ (hops _ _)
  refine wpAny_getItem_list_slice ht.isList (Heap.IsSliceOf.new ..) pl pu pk h0 ?_ (by rw [List.size_toArray]; have := r.length; omega)
  rw [pick_pick]
  have rv := vals_pick r l u k
  exact ⟨.ref _, _, I5.laid (t' := s4.toks) (o := .lst (pickD xs l u k)) (fun b ob q => Heap.get?_push_of_some _ q) (Nat.le_refl _) ⟨hw, _, 0, rv, Heap.get?_push_size _ rfl⟩, rfl, q4 _ (I5.hok.fresh (Nat.le_refl _))⟩
end
section
variable {X : Cx} {ρ : REnv} {μ μ1 μ2 μ3 μ4 : Sto} {a c : Expr} {lo hi : Option Expr} {l h : Option Int} {k : Int} {ds : List PyData} {p2 pos : Pos} {n0 : Nat}
/-- xs[lo:hi:k] -/
theorem EV.slL3 (ha : EV X a ρ μ (Ls ds) μ1) (hl : PartV X lo ρ μ1 l μ2) (hh : PartV X hi ρ μ2 h μ3) (hk : PartV X (some c) ρ μ3 (some k) μ4) (h0 : k ≠ 0) (hz : (J.pickD ds l h (some k)).length ≤ sizeLine) (hops : ∀ (v w : Value), subscripted (.Slice lo hi (some c) p2) false v w = operate [v, w] (getItem v w) := by intro _ _; with_unfolding_all rfl) : EV X (.Subscript a (.Slice lo hi (some c) p2) pos) ρ μ (Ls (J.pickD ds l h (some k))) μ4 := by
  intro w σ H m s Q q
  refine ⟨_, pe_slice3 (p_ex (e := a)) (p_ox (e := lo)) (p_ox (e := hi)) (p_ox (e := some c)) hops, ?_⟩
  refine ha w σ H m s _ fun v H1 m1 f1 h1 => ?_
  refine hl w σ H1 m1 (s.fr f1) _ fun H2 m2 f2 => ?_
  refine hh w σ H2 m2 ((s.fr f1).fr f2) _ fun H3 m3 f3 => ?_
  refine hk w σ H3 m3 (((s.fr f1).fr f2).fr f3) _ fun H4 m4 f4 => ?_
  have h4 := ((h1.fr f2).fr f3).fr f4
  cases h4 with
  | lst hb hd =>
    refine ⟨fun z => h0 (Option.some.inj z), _, _, rfl, SqL.of (dl_some hb).2, ?_, new_lst m4 (dq_pick hd l h (some k)) fun v H5 m5 f5 h5 => q v H5 m5 ((((f1.trans f2).trans f3).trans f4).trans f5) h5⟩
    rw [dqAll_len (dq_pick hd l h (some k))]
    exact hz
end
/-- xs[::-1] -/
theorem pick_rev {α : Type} (xs : List α) : pickD xs none none (some (-1)) = xs.reverse := by
  unfold pickD
  have e : sliceBounds none none (some (-1)) xs.length = ((xs.length : Int) - 1, -1, -1) := by first | rfl | simp [sliceBounds]
  rw [e]
  have e2 : sliceRange ((xs.length : Int) - 1) (-1) (-1) = (List.range xs.length).map fun k => xs.length - 1 - k := by
    unfold sliceRange
    have h1 : ¬ ((-1 : Int) > 0) := by decide
    by_cases h : (xs.length : Int) - 1 > -1
    · have e : ((xs.length : Int) - 1 - -1 - -1 - 1) / (- -1) = (xs.length : Int) := by
        rw [show (- -1 : Int) = 1 by decide, Int.ediv_one]
        omega
      simp only [h1, if_false, h, if_true, e, Int.toNat_natCast]
      refine List.map_congr_left fun k hk => ?_
      have := List.mem_range.mp hk
      omega
    · have e : xs.length = 0 := by omega
      rw [e]
      simp
  rw [e2]
  refine List.ext_getElem? fun i => ?_
  rw [List.filterMap_map]
  have main : ∀ (m : Nat), m ≤ xs.length → (List.range m).filterMap ((fun x => xs[x]?) ∘ fun k => xs.length - 1 - k) = (xs.drop (xs.length - m)).reverse := by
    intro m
    induction m with
    | zero => intro _; simp
    | succ m ih =>
      intro hm
      rw [List.range_succ, List.filterMap_append, ih (by omega)]
      have hx : xs.length - (m + 1) < xs.length := by omega
      have e3 : xs.drop (xs.length - (m + 1)) = xs[xs.length - (m + 1)] :: xs.drop (xs.length - m) := by
        rw [List.drop_eq_getElem_cons hx]
        congr 2
        omega
      rw [e3, List.reverse_cons]
      congr 1
      have : xs.length - 1 - m = xs.length - (m + 1) := by omega
      simp [this, hx]
  rw [main xs.length (Nat.le_refl _), Nat.sub_self, List.drop_zero]
end J
/-! J67: xs[lo::st] = ys, ys another list. -/
namespace J
open PySem PySem.Spec
open PyProof.Rows L2
variable [KC]
/-- values put at places -/
def putL {α : Type} (ps : List Nat) (vs acc : List α) : List α := (ps.zip vs).foldl (fun a q => a.set q.1 q.2) acc
theorem putL_len {α : Type} (ps : List Nat) (vs acc : List α) : (putL ps vs acc).length = acc.length := by
  unfold putL
  generalize ps.zip vs = l
  induction l generalizing acc with
  | nil => rfl
  | cons q l ih => rw [List.foldl_cons, ih, List.length_set]
theorem putL_map {α β : Type} (f : α → β) (ps : List Nat) (vs acc : List α) : putL ps (vs.map f) (acc.map f) = (putL ps vs acc).map f := by
  unfold putL
  rw [List.zip_map_right]
  generalize ps.zip vs = l
  induction l generalizing acc with
  | nil => rfl
  | cons q l ih =>
    rw [List.map_cons, List.foldl_cons, List.foldl_cons]
    show List.foldl _ ((acc.map f).set q.1 (f q.2)) _ = _
    rw [← List.map_set, ih]
/-- what stands at a place: the last value put there, or what stood there -/
theorem putL_get {α : Type} : ∀ (ps : List Nat) (vs acc : List α), ps.length = vs.length → ps.Nodup → (∀ p ∈ ps, p < acc.length) → ∀ i, (putL ps vs acc)[i]? = match ps.idxOf? i with
    | some j => vs[j]?
    | none => acc[i]?
  | [], vs, acc, _, _, _, i => by cases vs <;> rfl
  | p :: ps, [], acc, h, _, _, i => by simp at h
  | p :: ps, v :: vs, acc, h, nd, hp, i => by
    have ih := putL_get ps vs (acc.set p v) (by simpa using h) (List.nodup_cons.mp nd).2 (fun q hq => by rw [List.length_set]; exact hp q (List.mem_cons_of_mem _ hq)) i
    have e : putL (p :: ps) (v :: vs) acc = putL ps vs (acc.set p v) := rfl
    rw [e, ih, List.idxOf?_cons]
    by_cases z : p = i
    · subst z
      have hn : ps.idxOf? p = none := by
        rw [List.idxOf?_eq_none_iff]
        exact (List.nodup_cons.mp nd).1
      rw [hn, if_pos (beq_self_eq_true p)]
      dsimp only
      rw [List.getElem?_set_self (hp p List.mem_cons_self)]
      rfl
    · rw [if_neg (by simpa using z)]
      cases hq : ps.idxOf? i with
      | none =>
        dsimp only [Option.map]
        rw [List.getElem?_set_ne z]
      | some j =>
        dsimp only [Option.map]
        rw [List.getElem?_cons_succ]
theorem putL_off {α : Type} : ∀ (rest vs pre : List α), vs.length = rest.length → putL (List.range' pre.length rest.length) vs (pre ++ rest) = pre ++ vs
  | [], [], pre, _ => by simp [putL]
  | [], v :: vs, pre, h => by simp at h
  | x :: rest, [], pre, h => by simp at h
  | x :: rest, v :: vs, pre, h => by
    rw [List.length_cons, List.range'_succ]
    show putL (List.range' (pre.length + 1) rest.length) vs ((pre ++ x :: rest).set pre.length v) = _
    have e : (pre ++ x :: rest).set pre.length v = (pre ++ [v]) ++ rest := by
      rw [List.set_append_right _ _ (Nat.le_refl _), Nat.sub_self]
      simp
    have := putL_off rest vs (pre ++ [v]) (by simpa using h)
    rw [List.length_append, List.length_singleton] at this
    rw [e, this, List.append_assoc]
    rfl
theorem putL_all {α : Type} (vs acc : List α) (h : vs.length = acc.length) : putL (List.range acc.length) vs acc = vs := by
  have := putL_off acc vs [] h
  rwa [List.length_nil, List.nil_append, List.nil_append, ← List.range_eq_range'] at this
/-- the places of xs[lo::st] -/
def plcs (lo st : Int) (n : Nat) : List Nat := sliceRange (sliceBounds (some lo) none (some st) n).1 (sliceBounds (some lo) none (some st) n).2.1 (sliceBounds (some lo) none (some st) n).2.2
theorem bnd_pos {lo st : Int} {n : Nat} (h0 : 0 ≤ lo) (h1 : 0 < st) : sliceBounds (some lo) none (some st) n = (min lo (n : Int), (n : Int), st) := by
  unfold sliceBounds
  simp only [Option.getD_some, show st > 0 from h1, if_true, show ¬ lo < 0 by omega, if_false]
  rw [Int.max_eq_right (by omega)]
theorem plcs_one (n : Nat) : plcs 0 1 n = List.range n := by
  unfold plcs
  rw [bnd_pos (by decide) (by decide), Int.min_eq_left (by omega)]
  unfold sliceRange
  dsimp only
  rw [if_pos (by decide)]
  have hc : (if (0 : Int) < (n : Int) then ((n : Int) - 0 + 1 - 1) / 1 else 0) = (n : Int) := by
    rw [Int.ediv_one]
    split <;> omega
  rw [hc, Int.toNat_natCast]
  conv => rhs; rw [← List.map_id (List.range n)]
  refine List.map_congr_left fun k _ => ?_
  show (0 + 1 * (k : Int)).toNat = k
  omega
theorem foldSet (ps : List Nat) (new : List Value) (its : List Value) : (ps.zip new).foldl (fun xs (q : Nat × Value) => xs.setIfInBounds q.1 q.2) its.toArray = (putL ps new its).toArray := by
  unfold putL
  generalize ps.zip new = l
  induction l generalizing its with
  | nil => rfl
  | cons q l ih =>
    rw [List.foldl_cons, List.foldl_cons, ← ih]
    congr 1
    exact List.setIfInBounds_toArray its q.1 q.2
theorem vals_putL : ∀ (ps : List Nat) {vs : List V} {us : List Value} {xs : List V} {its : List Value}, Vals vs us → Vals xs its → Vals (putL ps vs xs) (putL ps us its)
  | [], vs, us, xs, its, _, h => by
    cases vs <;> cases us <;> exact h
  | p :: ps, _, _, xs, its, .nil, h => h
  | p :: ps, _, _, xs, its, .cons r t, h => vals_putL ps t (h.set r p)
section
variable {prog : Program} {w : World} {A : Around} {E : Value → Shared → Prop} {s : Shared}
set_option maxRecDepth 100000 in
theorem store_step {l b sl : Addr} {its new : List Value} {n n2 : Nat} {vl vk : Value} {lo st : Int} {Q : Unit → Shared → Prop} (e : s.heap.get? l = some { cls := .type "list", data := .seq its.toArray n }) (e2 : s.heap.get? b = some { cls := .type "list", data := .seq new.toArray n2 }) (hne : l ≠ b)
    (hs : s.heap.IsSliceOf sl vl .none vk) (pl : IsPart vl (some lo)) (pk : IsPart vk (some st)) (h0 : 0 ≤ lo) (h1 : 0 < st) (h11 : st = 1 → lo = 0) (hlen : new.length = (plcs lo st its.length).length) (hz : its.length + new.length ≤ sizeLine)
    (h : ∀ f : Array Value → Array Value, f its.toArray = (putL (plcs lo st its.length) new its).toArray → Q () { s with heap := s.heap.update l (Obj.mapSeq f) }) : wpAny (model prog w) A (setItem (.ref l) (.ref sl) (.ref b)) Q E s := by
  have lL : s.heap.IsList l its.toArray := PySem.IsL.isList e
  have lB : s.heap.IsList b new.toArray := PySem.IsL.isList e2
  obtain ⟨os, o1, o2, o3⟩ := id hs
  have tS : s.TypeIs (.ref sl) "slice" := ⟨os, o1, o2⟩
  have nz : ¬ ((rawPart (some st) == rawInt 0) = true) := fun z => by
    have : st = 0 := by simpa [rawPart, rawInt] using z
    omega
  have ns : Builtin.List.listSameRef (.ref l) (.ref b) = false := beq_eq_false_iff_ne.mpr hne
  unfold setItem
  try with_reducible refine wpAny_holding ?_ <;> skip
  first | refine wpAny_bind (wpAny_pure ?_) <;> skip | skip
  refine wpAny_bind (wpAny_sequenceKey lL.typeIs (by decide) (wpAny_bind (wpAny_callSpecial?_slot (name := Str.ofString "__setitem__") lL.typeIs slot_list_setitem (wpAny_call_entry slot_list_setitem lL.typeIs entry_list_setitem ?_ (args_list_setitem _ _ _)))))
  show wpAny _ _ (Builtin.List.listSubscript? (.ref sl) >>= _) _ _ s; refine wpAny_bind ?_; unfold Builtin.List.listSubscript?; refine wpAny_bind (wpAny_specialOf tS slice_no_index ?_); simp only [Option.isNone_none, if_true]; refine wpAny_pure ?_
  show wpAny _ _ (typeOf (.ref sl) >>= _) _ _ s; refine wpAny_bind (wpAny_typeOf tS ?_); first | rw [if_neg (by decide)] | refine PySem.W.KFB.if_not (by decide) ?_
  rw [listSliceParts_eq]; refine wpAny_bind (wpAny_bind (wpAny_field o1 o3 (x := vk) rfl (wpAny_bind (wpAny_listPart pk ?_)))); rw [if_neg nz]
  refine wpAny_bind (wpAny_field o1 o3 (x := vl) rfl (wpAny_bind (wpAny_listPart pl (wpAny_bind (wpAny_field o1 o3 (x := .none) rfl (wpAny_bind (wpAny_listPart .none (wpAny_pure ?_))))))))
  first | simp only [ns, Bool.false_eq_true, if_false] | refine PySem.W.KFB.if_not ns ?_ | (dsimp only; rw [if_neg (by rw [ns]; exact Bool.false_ne_true)])
  refine wpAny_bind (m := Builtin.List.listAllItems (.ref b) "must assign iterable to extended slice") ?_; unfold Builtin.List.listAllItems; refine wpAny_bind (wpAny_typeOf lB.typeIs ?_)
  first | refine PySem.W.KFB.if_so (by decide) ?_ | rw [if_pos (by decide)] | simp only [beq_self_eq_true, Bool.true_or, if_true]
  unfold Builtin.List.listItems; refine wpAny_bind (wpAny_seqItems e2 rfl (wpAny_pure (wpAny_bind (wpAny_bind (wpAny_seqItems e rfl (wpAny_pure ?_))))))
  have hb := bnd_pos (n := its.toArray.size) h0 h1
  refine wpAny_bind (wpAny_of_eq ((sliceIndices_raw (some lo) none (some st) its.toArray.size (fun z => by cases z; omega)).trans (congrArg (pure : Int × Int × Int → Sem (Int × Int × Int)) hb)) ?_)
  show wpAny _ _ (if (st == 1) = true then _ else _) _ _ s
  by_cases hst : st = 1
  · have h00 := h11 hst
    subst hst h00
    rw [if_pos (by decide)]
    refine wpAny_bind (wpAny_rule ?_)
    have hsz : its.toArray.size + new.toArray.size ≤ sizeLine := by rw [List.size_toArray, List.size_toArray]; exact hz
    first | simp only [notLongL hsz, Bool.false_eq_true, if_false] | refine PySem.W.KFB.if_not (notLongL hsz) ?_
    first | refine wpAny_bind (wpAny_pure ?_) <;> skip | skip
    have hL : (putL (plcs 0 1 its.length) new its) = new := by
      rw [plcs_one] at hlen ⊢
      rw [List.length_range] at hlen
      exact putL_all new its hlen
    rw [hL] at h
    have e0 : (min 0 (its.toArray.size : Int)).toNat = 0 := by omega
    have e1 : (max (min 0 (its.toArray.size : Int)) (its.toArray.size : Int)).toNat = its.toArray.size := by omega
    rw [e0, e1]
    show wpAny _ _ (updateSeq l (fun xs => xs.extract 0 0 ++ new.toArray ++ xs.extract its.toArray.size) >>= _) _ _ s
    refine wpAny_bind (wpAny_updateSeq (hz := by rw [List.size_toArray]; omega) (_hz' := by simp; omega) e rfl (wpAny_bind (wpAny_letGo ?_)))
    have hq := h (fun xs => xs.extract 0 0 ++ new.toArray ++ xs.extract its.toArray.size) (by simp)
    first | exact wpAny_bind (wpAny_pure (wpAny_pure ⟨.none, rfl, wpAny_pure hq⟩)) | exact wpAny_pure ⟨.none, rfl, wpAny_pure hq⟩
  · rw [if_neg (by simpa using hst)]
    have hpl : sliceRange (min lo (its.toArray.size : Int)) (its.toArray.size : Int) st = plcs lo st its.length := by
      unfold plcs
      rw [List.size_toArray] at hb ⊢
      rw [hb]
    dsimp only
    rw [hpl, if_neg (by rw [List.size_toArray, hlen]; simp)]
    refine wpAny_bind (wpAny_rule ?_)
    show wpAny _ _ (updateSeq l (fun xs => ((plcs lo st its.length).zip new.toArray.toList).foldl (fun xs (k, x) => xs.setIfInBounds k x) xs) >>= _) _ _ s
    have hf : ((plcs lo st its.length).zip new.toArray.toList).foldl (fun xs (q : Nat × Value) => xs.setIfInBounds q.1 q.2) its.toArray = (putL (plcs lo st its.length) new its).toArray := foldSet _ _ _
    refine wpAny_bind (wpAny_updateSeq (hz := by rw [List.size_toArray]; omega) (_hz' := Nat.le_trans (Nat.le_of_eq (congrArg Array.size hf)) (by rw [List.size_toArray, putL_len]; omega)) e rfl (wpAny_bind (wpAny_letGo ?_)))
    have hq := h (fun xs => ((plcs lo st its.length).zip new.toArray.toList).foldl (fun xs (k, x) => xs.setIfInBounds k x) xs) hf
    first | exact wpAny_bind (wpAny_pure (wpAny_pure ⟨.none, rfl, wpAny_pure hq⟩)) | exact wpAny_pure ⟨.none, rfl, wpAny_pure hq⟩
end
section
variable {X : Cx} {o : Expr} {lo hi st : Option Expr} {to : TE} {tl ts : TO} {p2 pos : Pos}
/-- xs[lo::st] = ys -/
theorem pg_step {c d : Expr} (ho : PE X o to) (hl : PO X (some c) tl) (hs : PO X (some d) ts)
    (ha : ∀ v, assign (.Subscript o (.Slice (some c) none (some d) p2) pos) X.env v = (do
      let ov ← holding [v] (eval o X.env)
      let iv ← holding [v, ov] (eval (.Slice (some c) none (some d) p2) X.env)
      standAt pos
      holding [v, ov, iv] (setItem ov iv v)
      release [v, ov, iv] []) := by intro _; rfl) :
    PG X (.Subscript o (.Slice (some c) none (some d) p2) pos) (fun v σ H Q => to σ H fun x H1 => tl σ H1 fun l H2 => ts σ H2 fun k H3 => ∃ (a b : Addr) (xs ys : List V) (i j : Int), l = some i ∧ k = some j ∧ 0 ≤ i ∧ 0 < j ∧ (j = 1 → i = 0) ∧ x = .ref a ∧ v = .ref b ∧ a ≠ b ∧ H3 a = some (.lst xs) ∧ H3 b = some (.lst ys) ∧ ys.length = (plcs i j xs.length).length ∧ xs.length + ys.length ≤ sizeLine ∧ Q σ (upd H3 a (.lst (putL (plcs i j xs.length) ys xs)))) := by
  refine ⟨fun pins s σ H v u Q I r h => ?_⟩
  rw [ha]
  refine wpAny_bind (wpAny_holding (thn (ho.run pins s σ H _ I h) fun ov s1 ⟨x, H1, I1, r1, q1⟩ => wpAny_bind (wpAny_holding (wpAny_Slice (thn (hl.run pins s1 σ H1 _ I1 q1) fun vl s2 ⟨l, H2, I2, pl, q2⟩ => ?_)))))
  rw [evalPart_none]
  refine wpAny_pure (thn (hs.run pins s2 σ H2 _ I2 q2) fun vk s4 hh => ?_)
  obtain ⟨k, H4, I4, pk, a, b, xs, ys, i, j, el, ek, h0, h1, h11, ex, ev, hne, ea, eb, hlen, hz, q4⟩ := hh
  subst el ek ex ev
  cases r1
  cases r
  have I5 : Inv X pins σ H4 { s4 with heap := s4.heap.push { cls := .type "slice", data := .fields #[vl, .none, vk] } } := I4.kept (t' := s4.toks) fun b ob q => Heap.get?_push_of_some _ q
  obtain ⟨z, its, n, rv, hl1, e1⟩ := I5.lstM ea
  obtain ⟨z2, its2, n2, rv2, hl2, e2⟩ := I5.lstM eb
  have l1 := rv.length
  have l2 := rv2.length
  rw [l1] at hlen hz q4
  refine wpAny_bind (wpAny_standAt (wpAny_bind (wpAny_holding (store_step e1 e2 hne (Heap.IsSliceOf.new ..) pl pk h0 h1 h11 (by rw [← l2]; exact hlen) (by rw [← l2]; exact hz) fun f hf => wpAny_release ⟨σ, _, I5.lset (its' := putL (plcs i j its.length) its2 its) (t' := s4.toks) ea e1 hf (vals_putL _ rv2 rv) (by rw [putL_len, l1]; exact Nat.le_trans (Nat.le_add_right _ _) hz), q4⟩))))
end
section
variable {X : Cx} {ρ : REnv} {μ : Sto} {o c e : Expr} {p2 pos : Pos} {n0 : Nat} {ds es : List PyData} {i j : Int}
theorem dq_putL {H : Hp} : ∀ (ps : List Nat) {vs xs : List V} {es ds : List PyData}, DqAll H vs es → DqAll H xs ds → DqAll H (putL ps vs xs) (putL ps es ds)
  | [], vs, xs, es, ds, _, h => by
    cases vs <;> cases es <;> exact h
  | p :: ps, _, _, _, _, .nil, h => h
  | p :: ps, _, _, _, _, .cons (v := v) (vs := vs) (d := d) (ds := es) r t, h => by
    have hset : ∀ (xs : List V) (ds : List PyData) (j : Nat), DqAll H xs ds → DqAll H (xs.set j v) (ds.set j d) := by
      intro xs
      induction xs with
      | nil => intro ds j h; cases h; exact .nil
      | cons x xs ih =>
        intro ds j h
        cases h with
        | cons h1 h3 =>
          cases j with
          | zero => exact .cons r h3
          | succ j => exact .cons h1 (ih _ j h3)
    exact dq_putL ps t (hset _ _ p h)
theorem GW.step (ho : EV X o ρ μ (.ptr n0) μ) (hc : EV X c ρ μ (Ii i) μ) (he : EV X e ρ μ (Ii j) μ) (hn : μ[n0]? = some ds) (h0 : 0 ≤ i) (h1 : 0 < j) (h11 : j = 1 → i = 0) (hlen : es.length = (plcs i j ds.length).length) (hz : ds.length + es.length ≤ sizeLine)
    (ha : ∀ v, assign (.Subscript o (.Slice (some c) none (some e) p2) pos) X.env v = (do
      let ov ← holding [v] (eval o X.env)
      let iv ← holding [v, ov] (eval (.Slice (some c) none (some e) p2) X.env)
      standAt pos
      holding [v, ov, iv] (setItem ov iv v)
      release [v, ov, iv] []) := by intro _; rfl) : GW X (.Subscript o (.Slice (some c) none (some e) p2) pos) (.list es) ρ μ ρ (μ.set n0 (putL (plcs i j ds.length) es ds)) := by
  intro w σ H v m s h Q q
  refine ⟨_, pg_step (p_ex (e := o)) (p_ox (e := some c)) (p_ox (e := some e)) ha, ?_⟩
  refine ho w σ H m s _ fun u H1 m1 f1 g1 => ?_
  obtain ⟨a0, ha0, rfl⟩ := g1
  refine (PartV.some hc) w σ H1 m1 (s.fr f1) _ fun H2 m2 f2 => ?_
  refine (PartV.some he) w σ H2 m2 ((s.fr f1).fr f2) _ fun H3 m3 f3 => ?_
  obtain ⟨xs, e3, hd⟩ := m3.cell n0 a0 ds ha0 hn
  have h3 := ((h.fr f1).fr f2).fr f3
  cases h3 with
  | @lst b ys _ hb hy =>
    obtain ⟨nb, eb⟩ := dl_some hb
    have hne : a0 ≠ b := fun z => nb (List.mem_append_left _ (z ▸ List.mem_of_getElem? ha0))
    obtain ⟨mm, ff⟩ := m3.put (ds := putL (plcs i j ds.length) es ds) (vs := putL (plcs i j xs.length) ys xs) ha0 (by rw [dqAll_len hd]; exact dq_putL _ hy hd)
    refine ⟨a0, b, xs, ys, i, j, rfl, rfl, h0, h1, h11, rfl, rfl, hne, e3, eb, by rw [dqAll_len hy, dqAll_len hd]; exact hlen, by rw [dqAll_len hy, dqAll_len hd]; exact hz, q σ _ mm (((f1.trans f2).trans f3).trans ff) ((((s.fr f1).fr f2).fr f3).fr ff)⟩
end
end J
/-! J69: x -= e; targets from a call that may raise; return of a list of its own and a value; max of a list; raise X(). -/
namespace J
open PySem PySem.Spec
open PyProof.Rows L2
variable [KC]
def greatI (l : List Int) : Int := (l.max?).getD 0
theorem great_is {l : List Int} {m : Int} (h1 : m ∈ l) (h2 : ∀ a ∈ l, a ≤ m) : greatI l = m := by
  unfold greatI
  have : l.max? = some m := List.max?_eq_some_iff.mpr ⟨h1, h2⟩
  rw [this]
  rfl
theorem cv_maxI {K : PySem.W.Frag} {μ : Sto} {l : List Int} (hne : l ≠ []) : CallV K (rMax K) [Ls (l.map PyData.int)] (Ii (greatI l)) μ := call1 fun w H v m a Q q => by
  cases a with
  | lst ha hd =>
    rw [dqAll_ints' hd] at ha
    refine ⟨_, l, rfl, SqL.of (dl_some ha).2, List.length_pos_iff.mpr hne, fun mm h1 h2 => ?_⟩
    rw [← great_is h1 h2]
    exact q _ _ m .refl (Dq.int _)
section
variable {X : Cx} {W : WX} {n : Nat} {ρ ρ1 : REnv} {μ μ1 μ2 : Sto} {P : Out → Prop} {e a b tg : Expr} {rest : List Stmt} {pos p p' pt : Pos} {x : Str} {d : PyData} {ds : List PyData} {i j : Int} {o : Res}
theorem bMaxL {l : List Int} (T : X.mg "max" = none) (hc : X.calm = true) (ha : EV X a ρ μ (Ls (l.map .int)) μ1) (hne : l ≠ []) (hg : Gl X "max" := by rfl) (hs : starEach [a] X.env = (false, eval a X.env) :: starEach [] X.env := by rfl) : EV X (.Call (.Name "max" p) [a] [] pos) ρ μ (Ii (greatI l)) μ1 :=
  EV.callB (cr_max hc) T (by decide +kernel) (AV.cons ha AV.nil hs) (cv_maxI hne) hg (by decide) (by decide) hs (by rfl)
theorem ST.augSub {k : Nat} (h0 : ρ[k]? = some (some (Ii i))) (h : EV X e ρ μ (Ii j) μ1) (hN : X.N.Nodup) (hi : X.N[k]? = some x) (hx : Loc X.env.scope x) (hr : ST X W n rest (ρ.set k (some (Ii (i - j)))) μ1 P)
    (hf : X.fn x = true ∨ X.env.scope.names.lookup x = some .local := by first | exact .inl rfl | exact .inr rfl | assumption) : ST X W n (.AugAssign (.Name x p') .Sub e pos :: rest) ρ μ P := by
  intro w σ H D hn m s q
  refine ⟨_, pss_cons (ps_aug hN hi hx (p_ex (e := e)) ip_sub hf) p_sx, ?_⟩
  obtain ⟨v, ev, hv⟩ := s.at_ k _ h0
  cases hv
  refine ⟨_, ev, ?_⟩
  refine h w σ H m s _ fun v H1 m1 f1 h1 => ?_
  cases h1
  exact ⟨i, j, rfl, rfl, hr w _ H1 D hn m1 ((s.fr f1).set (Dq.int _)) fun o ho => (q o ho).step hn f1⟩
/-- targets = a call that may raise -/
theorem ST.asgR {is : List Nat} (h : EVR X W e ρ μ o) (hg : ∀ d μ1, o = .ok (.dat d) μ1 → ∃ ρ1, GV X tg d ρ ρ1 is ∧ ST X W n rest ρ1 μ1 P) (hr : ∀ C fs μ1, o = .rse C fs μ1 → P (.rse ρ μ1 C fs)) (hd : ∀ r μ1, o = .ok r μ1 → ∃ d, r = .dat d) (hs : swapsWithSole [tg] e pos.line X.env = pure false := by rfl) (hw : swappedStores [tg] e X.env = pure none := by rfl)
    (h1 : (assignEach [tg] X.env).map (·.2) = [assign tg X.env] := by rfl) : ST X W n (.Assign [tg] e pos :: rest) ρ μ P := by
  intro w σ H D hn m s q
  refine ⟨_, pss_cons (ps_asg (p_ex (e := e)) (p_gx (e := tg)) hs hw h1) p_sx, ?_⟩
  refine h w σ H m s _ ?_
  cases o with
  | ok r μ1 =>
    obtain ⟨d, rfl⟩ := hd r μ1 rfl
    obtain ⟨ρ1, g1, r1⟩ := hg d μ1 rfl
    intro v H1 m1 f1 hv
    refine g1 w σ H1 μ1 v m1 (s.fr f1) hv _ fun σ1 s1 _ => ?_
    exact r1 w _ H1 D hn m1 s1 fun o ho => (q o ho).step hn f1
  | rse C fs μ1 => exact fun od H1 m1 f1 hx => Fin.rse0 (q _ (hr C fs μ1 rfl)) m1 (s.fr f1) f1 hx
/-- return a list of its own, a value -/
theorem ST.retPC {kc k2 : Nat} (ha : EV X a ρ μ (.ptr kc) μ1) (hb : EV X b ρ μ1 (.dat d) μ2) (hn0 : μ2[kc]? = some ds) (hk : n ≤ kc) (hP : P (.ret (Tp [.list ds, d]) (μ2.take n))) (hs : starEach [a, b] X.env = (false, eval a X.env) :: starEach [b] X.env := by rfl) (hs2 : starEach [b] X.env = (false, eval b X.env) :: starEach [] X.env := by rfl) : ST X W n (.Return (some (.Tuple [a, b] k2 pt)) pos :: rest) ρ μ P := by
  intro w σ H D hn m s q
  refine ⟨_, pss_cons (ps_ret (pe_tup (p_ax (e := [a, b])))) pss_never, ?_⟩
  refine (AV.cons ha (AV.cons hb AV.nil hs2) hs) w σ H m s _ fun vs H1 m1 f1 h1 => ?_
  obtain ⟨v1, us, rfl, g1, h2⟩ := h1.inv
  obtain ⟨v2, us, rfl, g2, h3⟩ := h2.inv
  obtain rfl := h3.inv0
  have c1 : Val X.K H1 (w.cut n) v1 (frz n μ2 (.ptr kc)) := val_frz m1 g1
  have c2 : Val X.K H1 (w.cut n) v2 (frz n μ2 (.dat d)) := val_frz m1 g2
  have e1 : frz n μ2 (.ptr kc) = .dat (.list ds) := by
    show (if kc < n then Ent.ptr kc else Ent.dat (.list (μ2.getD kc []))) = _
    rw [if_neg (by omega), List.getD_eq_getElem?_getD, hn0]
    rfl
  rw [e1] at c1
  refine ⟨by show 2 ≤ sizeLine; decide, fun p0 hp0 => ?_⟩
  have mc := m1.cut n
  refine q _ hP _ _ (mc.new hp0) (f1.trans (Fr.of_same (Same.new hp0))) ?_
  exact val_tup mc hp0 (.cons c1 (.cons c2 .nil))
end
end J
/-! J70: methods without arguments; an object that is made, changed and returned. -/
namespace J
open PySem PySem.Spec
open PyProof.Rows L2
variable [KC]
section
variable {X : Cx} {CX1 : CXT} {k : Nat} {f C : Addr} {fd : FuncData} {ps : List Str} {sp : Sp} {E : L2.St → XK} {m : Str} {pos apos : Pos} {o : Expr} {ta : TE}
theorem pe_methS0 {pl : Sem Bool} (he : PE X o ta) (c : Cls X.K C) (hm : Meth X.K C m f) (F : FnOk X.prog X.w X.K X.mg X.base CX1 k f fd ps sp) (hr : Room k X.A) (hb : Binds X.K fd ps []) (hx : ∀ σ, PassesAt CX1 X σ (E σ))
    (ht : eval (.Call (.Attribute o m apos) [] [] pos) X.env = (do
      let ov ← eval o X.env
      standAt apos.atName
      let (f, first) ← holding [ov] (getMethod ov m pl)
      callWith pos f first (backTo pos (starEach [] X.env)) (backToKw pos (keywordEach [] X.env))) := by rfl) :
    PE X (.Call (.Attribute o m apos) [] [] pos) (tMethS C m sp E ta tNil) := by
  refine ⟨fun pins s σ H Q I h => ?_⟩
  refine PySem.W.methodCall_KW (pl := pl) (thn (he.run pins s σ H _ I h) fun u s1 ⟨x, H1, I1, rx, a, dx, fs, ex, ea, l, q⟩ => ?_) ht
  subst ex
  obtain rfl : u = Value.ref a := rx
  exact getmeth_ok I1 ea c hm l (PySem.W.callWith_K0 (first := [.ref a]) I1.kIn hm.kp (run_fnS (us := [.ref a]) (vs := [.ref a]) F hr hb (hx σ) I1 (.cons rfl .nil) q))
end
section
variable {X : Cx} {W : WX} {ρ : REnv} {μ μ1 μ2 : Sto} {o : Expr} {C : Addr} {fs : List (Str × PyData)} {m : Str} {k : Nat} {cn : ConX} {cm : Con} {r : Ent} {oo : Res} {pos apos : Pos}
theorem EVR.meth0 {pl : Sem Bool} (ho : EV X o ρ μ (.obj C fs) μ1) (cl : Cls X.K C) (hm : MthX X.prog X.w X.K X.mg X.base C m k ["self"] cn) (tk : L2N.Takes X W) (hr : Room k X.A) (hl : fs.lookup m = none) (hC : cn [.obj C fs] μ1 oo)
    (ht : eval (.Call (.Attribute o m apos) [] [] pos) X.env = (do
      let ov ← eval o X.env
      standAt apos.atName
      let (f, first) ← holding [ov] (getMethod ov m pl)
      callWith pos f first (backTo pos (starEach [] X.env)) (backToKw pos (keywordEach [] X.env))) := by rfl) : EVR X W (.Call (.Attribute o m apos) [] [] pos) ρ μ oo := by
  intro w σ H m0 s Q q
  obtain ⟨g, fd, F, me, bi⟩ := hm.ex
  refine ⟨_, pe_methS0 (E := WE W) (pl := pl) (p_ex (e := o)) cl me F hr bi (fun σ => L2N.passAt tk σ) ht, ?_⟩
  refine ho w σ H m0 s _ fun v H1 m1 f1 h1 => ?_
  have h1' := h1
  obtain ⟨x, dx, ws, rfl, hx, hn, hd⟩ := h1
  refine ⟨x, dx, ws, rfl, (dl_some hx).2, lk_none hn hl, ?_⟩
  refine ⟨w, μ1, [.obj C fs], oo, m1, Vas.cons (r := .obj C fs) h1' .nil, rfl, hC, ?_⟩
  cases oo with
  | ok r μ3 => exact fun v H3 m3 f3 h3 => q v H3 m3 (f1.trans f3) h3
  | rse C fs μ3 => exact fun od H3 m3 f3 h3 => q od H3 m3 (f1.trans f3) h3
end
/-! ### a local object -/
def putFd (f : Str) (d : PyData) : List (Str × PyData) → List (Str × PyData)
  | [] => [(f, d)]
  | (g, e) :: fs => if g = f then (f, d) :: fs else (g, e) :: putFd f d fs
theorem putFd_rel {H : Hp} {f : Str} {v : V} {d : PyData} : ∀ {ws : List (Str × V)} {fs : List (Str × PyData)}, ws.map (·.1) = fs.map (·.1) → DqAll H (ws.map (·.2)) (fs.map (·.2)) → Dq H v d → (putF f v ws).map (·.1) = (putFd f d fs).map (·.1) ∧ DqAll H ((putF f v ws).map (·.2)) ((putFd f d fs).map (·.2)) ∧ (putF f v ws).length ≤ ws.length + 1
  | [], [], _, _, hv => ⟨rfl, .cons hv .nil, Nat.le_refl _⟩
  | [], _ :: _, h, _, _ => by simp at h
  | _ :: _, [], h, _, _ => by simp at h
  | (g, y) :: ws, (g', e) :: fs, h, hd, hv => by
    rw [List.map_cons, List.map_cons, List.cons.injEq] at h
    obtain ⟨h1, h2⟩ := h
    dsimp only at h1
    subst h1
    cases hd with
    | cons a b =>
      unfold putF putFd
      by_cases z : g = f
      · rw [if_pos z, if_pos z]
        exact ⟨by rw [List.map_cons, List.map_cons, h2]; show g :: _ = f :: _; rw [z], .cons hv b, by simp⟩
      · rw [if_neg z, if_neg z]
        obtain ⟨q1, q2, q3⟩ := putFd_rel h2 b hv
        exact ⟨by rw [List.map_cons, List.map_cons, q1], .cons a q2, by simp only [List.length_cons]; omega⟩
def SM (X : Cx) (W : WX) (n i : Nat) (C : Addr) (sts : List Stmt) (ρ : REnv) (μ : Sto) (fs : List (Str × PyData)) (P : Out → Prop) : Prop :=
  ∀ w0 x dx σ H0 H (D : Ends), n ≤ w0.α.length → H0 x = none → x ∉ w0.all → (∀ b o, H0 b = some o → b ∉ w0.α → Nt o → H b = some o) → Mem X.K H (wk' w0 x) μ → Sl X.K H (wk' w0 x) σ ρ → σ[i]? = some (some (.ref x)) → InO H (wk' w0 x) x dx C fs →
    (∀ o, P o → Fin X W n w0 H0 D o) → SX X sts D σ H
section
variable {X : Cx} {W : WX} {n i : Nat} {ρ : REnv} {μ μ1 : Sto} {e : Expr} {es : List Expr} {rest : List Stmt} {pos p p0 p1 p2 p' : Pos} {rs : List Ent} {d : PyData} {x f sn nm : Str} {C : Addr} {fs : List (Str × PyData)} {P : Out → Prop} {k : Nat} {ps : List Str} {con : List Ent → Sto → List (Str × PyData) → Prop}
theorem SM.fld (h : EV X e ρ μ (.dat d) μ) (hself : PE X (.Name sn p1) (tVar i)) (cl : Cls X.K C) (na : NoAttr X.K C f) (hl : fs.length < 1000) (hr : SM X W n i C rest ρ μ (putFd f d fs) P) (hs : swapsWith e (some (.Attribute (.Name sn p1) f p2)) pos.line X.env = pure false := by rfl) : SM X W n i C (.Assign [.Attribute (.Name sn p1) f p2] e pos :: rest) ρ μ fs P := by
  intro w0 x dx σ H0 H D hn hx0 hxa hk m s hs0 hI q
  refine ⟨_, pss_cons (ps_fld hself (p_ex (e := e)) hs) p_sx, ?_⟩
  refine h (wk' w0 x) σ H m s _ fun v H1 m1 f1 h1 => ?_
  obtain ⟨ws, i1, i2, i3⟩ := hI.fr m f1
  have hwl : ws.length = fs.length := by
    have := congrArg List.length i2
    rwa [List.length_map, List.length_map] at this
  refine ⟨.ref x, hs0, x, C, dx, ws, rfl, i1, cl, na, by omega, ?_⟩
  have g : Same (dl H1 (wk' w0 x).all) (dl (upd H1 x (.ins C dx (putF f v ws))) (wk' w0 x).all) := same_outs
  obtain ⟨q1, q2, _⟩ := putFd_rel i2 (dqAll_mono g _ _ i3) (dq_mono g _ _ h1)
  refine hr w0 x dx σ H0 _ D hn hx0 hxa (fun b o eb nb nt => ?_) m1.outs ((s.fr f1).same g) hs0 ⟨_, upd_same, q1, q2⟩ q
  rw [upd_ne (ne_of_none eb hx0)]
  exact f1 b o (hk b o eb nb nt) nb nt
theorem SM.ret (hv : PE X (.Name sn p1) (tVar i)) (hP : P (.ret (.obj C fs) (μ.take n))) : SM X W n i C [.Return (some (.Name sn p1)) pos] ρ μ fs P := by
  intro w0 x dx σ H0 H D hn hx0 hxa hk m s hs0 hI q
  refine ⟨_, pss_cons (ps_ret hv) pss_never, ?_⟩
  obtain ⟨ws, e2, n2, d2⟩ := hI
  have m0 := m.unkeep
  refine ⟨_, hs0, ?_⟩
  refine q _ hP (.ref x) H (m0.cut n) hk ?_
  have hv0 : Val X.K H w0 (.ref x) (.obj C fs) := ⟨x, dx, ws, rfl, dl_of hxa e2, n2, dqAll_mono (dl_sub fun b hb => all_wk'.mpr (.inr hb)) _ _ d2⟩
  exact val_frz m0 hv0
/-- x = C(e, ..), an object that may still be changed -/
theorem ST.mutMk (M : MakF X.prog X.w X.K X.mg X.base nm C k ps con) (hr0 : Room (k + 1) X.A) (ha : AV X (e :: es) ρ μ rs μ1) (hC : con rs μ1 fs) (hN : X.N.Nodup) (hi : X.N[i]? = some x) (hx : Loc X.env.scope x) (hρ : ρ[i]? = some none) (hr : SM X W n i C rest ρ μ1 fs P) (hg : Gl X nm := by rfl) (hst : starEach (e :: es) X.env = (false, eval e X.env) :: starEach es X.env := by rfl) (hdb : (nm == ("__debug__" : Str)) = false := by decide)
    (hpl : (backTo p (starEach es X.env)).any (·.1) = false := by rfl) (hs : swapsWith (.Call (.Name nm p0) (e :: es) [] p) (some (.Name x p')) pos.line X.env = pure false := by rfl)
    (hf : X.fn x = true ∨ X.env.scope.names.lookup x = some .local := by first | exact .inl rfl | exact .inr rfl | assumption) : ST X W n (.Assign [.Name x p'] (.Call (.Name nm p0) (e :: es) [] p) pos :: rest) ρ μ P := by
  intro w σ H D hn m s q
  obtain ⟨g, fd, F, mk, hm, bi⟩ := M.ex
  refine ⟨_, pss_cons (ps_set hN hi hx (pe_make (E := E0) mk F hr0 hg hm bi .nil pass0 (p_ax (e := e :: es)) hdb hst hpl) hs hf) p_sx, ?_⟩
  refine ha w σ H m s _ fun vs H1 m1 f1 h1 => ?_
  intro y dx hy hdx hne
  have hS : Same H1 (upd (upd H1 dx (.own y)) y (.ins C dx [])) := fun b u eb => by
    rw [upd_ne (ne_of_none eb hy), upd_ne (ne_of_none eb hdx)]
    exact eb
  have g := keep_out (K := X.K) (w := w) hy (Fr.of_same hS) ⟨_, upd_same⟩
  refine ⟨y, dx, vs, w, μ1, rs, fs, by rw [List.append_nil], make_mem m1 hy hdx hne, vas_same (w := w) (w2 := wk' w y) rfl h1 g, ⟨[], upd_same, rfl, .nil⟩, hC, fun H2 m2 f2 i2 => ⟨rfl, ?_⟩⟩
  have hya : y ∉ w.all := m1.freshA hy
  have hlen : i < σ.length := by
    have := (List.getElem?_eq_some_iff.mp hρ).1
    rw [s.len]
    exact this
  have kp : ∀ b o, H1 b = some o → b ∉ w.α → Nt o → H2 b = some o := fun b o eb nb nt => f2 b o (ne_of_none eb hy) (hS b o eb) nb nt
  have g2 : Same (dl H1 w.all) (dl H2 (wk' w y).all) := keep_out (K := X.K) (w := w) hy kp (i2.elim fun ws z => ⟨_, z.1⟩)
  refine hr w y dx (σ.set i (some (.ref y))) H1 H2 D hn hy hya kp m2 ?_ (by rw [List.getElem?_set_self hlen]) i2 fun o ho => (q o ho).step hn f1
  have s1 := (s.fr f1).same2 g2
  refine ⟨by rw [List.length_set]; exact s1.len, fun j r hj => ?_⟩
  by_cases z : i = j
  · subst z
    rw [hρ] at hj
    cases hj
  · rw [List.getElem?_set_ne z]
    exact s1.at_ j r hj
end
end J
/-! J74: return e, with the lists of its own from k on looked at as data. -/
namespace J
open PySem PySem.Spec
open PyProof.Rows L2
variable [KC]
def frzE (k : Nat) (μ : Sto) (ρ : REnv) : REnv := ρ.map (Option.map (frz k μ))
theorem sl_frz {K : PySem.W.Frag} {H : Hp} {w : Wd} {μ : Sto} {σ : L2.St} {ρ : REnv} (m : Mem K H w μ) (s : Sl K H w σ ρ) (k : Nat) : Sl K H (w.cut k) σ (frzE k μ ρ) := by
  refine ⟨by rw [s.len]; unfold frzE; rw [List.length_map], fun i r h => ?_⟩
  unfold frzE at h
  rw [List.getElem?_map] at h
  cases e : ρ[i]? with
  | none => rw [e] at h; cases h
  | some q =>
    rw [e] at h
    cases q with
    | none => cases h
    | some r0 =>
      cases h
      obtain ⟨v, hv, h2⟩ := s.at_ i r0 e
      exact ⟨v, hv, val_frz m h2⟩
theorem cut_cut {w : Wd} {n k : Nat} (h : n ≤ k) : (w.cut k).cut n = w.cut n := by
  show (⟨(w.α.take k).take n, w.ξ⟩ : Wd) = ⟨w.α.take n, w.ξ⟩
  rw [List.take_take, Nat.min_eq_left h]
section
variable {X : Cx} {W : WX} {n : Nat} {ρ ρ' : REnv} {μ ν ν2 : Sto} {P : Out → Prop} {e : Expr} {rest : List Stmt} {pos : Pos} {r : Ent}
theorem ST.retZ (k : Nat) (hk : n ≤ k) (e1 : frzE k μ ρ = ρ') (e2 : μ.take k = ν) (h : EV X e ρ' ν r ν2) (hP : P (.ret (frz n ν2 r) (ν2.take n))) : ST X W n (.Return (some e) pos :: rest) ρ μ P := by
  subst e1 e2
  intro w σ H D hn m s q
  refine ⟨_, pss_cons (ps_ret (p_ex (e := e))) pss_never, ?_⟩
  refine h (w.cut k) σ H (m.cut k) (sl_frz m s k) _ fun v H1 m1 f1 hv => ?_
  have m2 := m1.cut n
  have v2 := val_frz (n := n) m1 hv
  rw [cut_cut hk] at m2 v2
  exact q _ hP v H1 m2 (fun b o eb nb nt => f1 b o eb (fun z => nb (List.mem_of_mem_take z)) nt) v2
end
end J
/-! J75: an if both ways of which end alike; values put at places, one after another. -/
namespace J
open PySem PySem.Spec
open PyProof.Rows L2
variable [KC]
def AtP (ρ : REnv) (μ : Sto) : Out → Prop
  | .nx ρ' μ' => ρ' = ρ ∧ μ' = μ
  | _ => False
section
variable {X : Cx} {W : WX} {n : Nat} {ρ ρ2 : REnv} {μ μ1 μ2 : Sto} {P : Out → Prop} {c : Expr} {body orelse rest : List Stmt} {pos : Pos} {k : Bool}
theorem ST.iffM (ρ2 : REnv) (μ2 : Sto) (h : TV X c ρ μ k μ1) (h1 : k = true → ST X W n body ρ μ1 (AtP ρ2 μ2)) (h2 : k = false → ST X W n orelse ρ μ1 (AtP ρ2 μ2)) (h3 : ST X W n rest ρ2 μ2 P) : ST X W n (.If c body orelse pos :: rest) ρ μ P := by
  have key : ∀ o, AtP ρ2 μ2 o → thenP X W n rest P o := fun o ho => by
    cases o with
    | nx ρ' μ' =>
      obtain ⟨rfl, rfl⟩ := ho
      exact h3
    | ret r μ' => exact ho.elim
    | brk ρ' μ' => exact ho.elim
    | ct ρ' μ' => exact ho.elim
    | rse ρ' μ' C fs => exact ho.elim
  exact ST.iff h (fun z => (h1 z).mono key) fun z => (h2 z).mono key
end
theorem frz_lt {n k : Nat} {μ : Sto} (h : k < n) : frz n μ (.ptr k) = .ptr k := if_pos h
theorem frz_at {n k : Nat} {μ : Sto} {xs : List PyData} (h : n ≤ k) (hk : μ[k]? = some xs) : frz n μ (.ptr k) = Ls xs := by
  show (if k < n then Ent.ptr k else .dat (.list (μ.getD k []))) = _
  rw [if_neg (by omega), List.getD_eq_getElem?_getD, hk]
  rfl
/-- the first i of the values put at their places -/
def putN {α : Type} (ps : List Nat) (vs acc : List α) (i : Nat) : List α := ((ps.zip vs).take i).foldl (fun a q => a.set q.1 q.2) acc
theorem putN_zero {α : Type} (ps : List Nat) (vs acc : List α) : putN ps vs acc 0 = acc := rfl
theorem putN_succ {α : Type} {ps : List Nat} {vs : List α} (acc : List α) {i p : Nat} {v : α} (h1 : ps[i]? = some p) (h2 : vs[i]? = some v) : putN ps vs acc (i + 1) = (putN ps vs acc i).set p v := by
  unfold putN
  have : (ps.zip vs)[i]? = some (p, v) := by
    rw [List.getElem?_zip_eq_some]
    exact ⟨h1, h2⟩
  rw [List.take_succ, this, List.foldl_append]
  rfl
theorem putN_len {α : Type} (ps : List Nat) (vs acc : List α) (i : Nat) : (putN ps vs acc i).length = acc.length := by
  unfold putN
  generalize (ps.zip vs).take i = l
  induction l generalizing acc with
  | nil => rfl
  | cons q l ih => rw [List.foldl_cons, ih, List.length_set]
theorem putN_all {α : Type} {ps : List Nat} {vs acc : List α} {i : Nat} (h : ps.length ≤ i) : putN ps vs acc i = (ps.zip vs).foldl (fun a q => a.set q.1 q.2) acc := by
  unfold putN
  rw [List.take_of_length_le (by rw [List.length_zip]; omega)]
end J
/-! LL0: a text is itself. -/
namespace J
open PySem PySem.Spec
open PyProof.Rows L2
variable [KC]
theorem eqS_same (s : Str) : (!eqS (.str s) (.str s)) = false := by
  show (!(s == s)) = false
  rw [beq_self_eq_true]
  rfl
end J
/-! KC9: the book of a sketch. -/
namespace J
open PySem PySem.Spec
open PyProof.Rows L2
variable [KC]
section
variable {w : World} {P : Program} {K : PySem.W.Frag} {base : Heap} {mg : Str → Option Value} {C : Addr}
abbrev nVol : List Str := ["_law_sketch_here", "_law_plan_here"]
theorem scVol : FnScope nVol ["_law_sketch_here"] (defScope sLVol) := ⟨rfl, rfl, rfl, by decide +kernel, rfl, by decide +kernel, by decide +kernel⟩
def cnVol (C : Addr) : Con := fun rs μ r μ' => ∃ ms : List G.Mate, rs = [Ls (ms.map GC.pd)] ∧ (ms.length ≤ 9 ∧ (∀ x ∈ ms, GC.PlOk x) ∧ M.Good (ms.map G.told)) ∧ r = bookE C (ms.map G.told) ∧ μ' = μ
theorem cVol (T : Bt mg) (M0 : Mak P w K mg base "Book" C "kept" 8 ["self", "plans"] M.Good) (C1 : Cal P w K mg base "_law_parts" 2 ["_law_plan_here"] cnPt) (D : Df K mg "_law_vol" sLVol) : Cal P w K mg base "_law_vol" 10 ["_law_sketch_here"] (cnVol C) := by
  refine D.cal scVol (fun _ _ _ _ _ _ us hl => match us, hl with | [_], _ => rfl) (by decide) (fun rs μ r μ' h => by obtain ⟨_, _, _, _, rfl⟩ := h; rfl) fun f cdv A outer s H E hr rs μ r μ' hC => ?_
  obtain ⟨ms, rfl, ⟨hl, hm, hG⟩, rfl, rfl⟩ := hC
  refine ST.retP (EV.make M0 hr (bTupL T (LCV.evf (own := [("_law_plan_here", 1)]) (LCV.mapT (α := G.Mate) GC.pd G.told (IV.lst (nm 0)) (fun x hx => ?_) (by omega)) rfl scVol.nd (blkOk_by (N := nVol) (sc := defScope sLVol) (by decide +kernel))).ev) hG) rfl
  exact ⟨_, fun _ _ _ _ _ => GV.name (i := 1) scVol.nd rfl (Or.inl rfl) (by simp), fun _ _ _ _ _ => EV.call C1 (hr.mono (by decide)) (AV.cons (nm 1) AV.nil) ⟨x, rfl, hm x hx, rfl, rfl⟩⟩
end
end J
/-! W63: what k63 asks of a drawn book. -/
namespace GC
open PySem J L2 M
variable [KC]
def fA (c : G.Part) : Int := (czA c).f
/-- whether a clause reads from a place beside this one -/
def thereB (c : G.Part) (n k : Int) : Bool := !(c.word == ("clear" : Str)) && isPlace (k + fA c) n
def doneB (c : G.Part) (n k : Int) : Bool := thereB c n k || !(c.word == ("join" : Str))
/-- a clause that is no call -/
structure Nc63 (c : G.Part) : Prop where
  w : c.word = "join" ∨ c.word = "take" ∨ c.word = "clear"
  s : c.word = "clear" ∨ c.side = "left" ∨ c.side = "right"
  o : 0 ≤ c.over
  b : 1 ≤ c.by_ ∧ c.by_ ≤ 3
  r : c.over < c.by_
theorem done_is {c : G.Part} (h : Nc63 c) (n : Int) : (spots c.over n c.by_).filter (doneB c n) = doneP c.word c.over c.by_ (fA c) n := by
  unfold doneP
  refine List.filter_congr fun k _ => ?_
  unfold doneB thereB
  rcases h.w with e | e | e <;> rw [e]
  · show (!false && isPlace _ n || !true) = (!true || isPlace _ n)
    simp
  · show (!false && isPlace _ n || !false) = (!false || isPlace _ n)
    simp
  · show (!true && isPlace _ n || !false) = (!false || isPlace _ n)
    simp
theorem read_is63 {c : G.Part} (h : Nc63 c) (n : Int) : ((spots c.over n c.by_).filter (thereB c n)).map (fun k => k + fA c) = readP c.word c.over c.by_ (fA c) n := by
  unfold readP
  rcases h.w with e | e | e
  · rw [if_neg (by rw [e]; decide)]
    congr 1
    refine List.filter_congr fun k _ => ?_
    unfold thereB
    rw [e]
    show (!false && isPlace _ n) = _
    simp
  · rw [if_neg (by rw [e]; decide)]
    congr 1
    refine List.filter_congr fun k _ => ?_
    unfold thereB
    rw [e]
    show (!false && isPlace _ n) = _
    simp
  · rw [if_pos (by rw [e]; rfl)]
    have : (spots c.over n c.by_).filter (thereB c n) = [] := by
      rw [List.filter_eq_nil_iff]
      intro k _
      unfold thereB
      rw [e]
      simp
    rw [this]
    rfl
def doneTo (r : List G.Part) (n : Int) : List Int := r.flatMap fun c => doneP c.word c.over c.by_ (fA c) n
def readTo (r : List G.Part) (n : Int) : List Int := r.flatMap fun c => readP c.word c.over c.by_ (fA c) n
theorem haz_is {c : G.Part} {cs : List G.Part} (hc : c.word ≠ "call") (n p : Int) : decide (p ∈ hazR (c :: cs) n) = (decide (p ∈ doneTo (c :: cs) n) && decide (p ∈ readTo (c :: cs) n)) := by
  have e : hazR (c :: cs) n = hazP ((c :: cs).map czA) n := if_neg hc
  have e1 : changedZ ((c :: cs).map czA) n = doneTo (c :: cs) n := by
    unfold changedZ doneTo
    rw [List.flatMap_map]
    rfl
  have e2 : sourcesZ ((c :: cs).map czA) n = readTo (c :: cs) n := by
    unfold sourcesZ readTo
    rw [List.flatMap_map]
    rfl
  rw [e, Bool.eq_iff_iff, decide_eq_true_eq, Bool.and_eq_true, decide_eq_true_eq, decide_eq_true_eq]
  unfold hazP
  rw [e1, e2, List.mem_filter, decide_eq_true_eq]
end GC
namespace J
open PySem PySem.Spec
open PyProof.Rows L2
variable [KC]
theorem cInC {X : Cx} {ρ : REnv} {μ μ1 μ2 : Sto} {a b : Expr} {pos : Pos} {d : PyData} {ds : List PyData} {n0 : Nat} (ha : EV X a ρ μ (.dat d) μ1) (hb : EV X b ρ μ1 (.ptr n0) μ2) (hn : μ2[n0]? = some ds) (h1 : flatD d = true) (h2 : ds.all flatD = true) (hm : behindInMarks .In b = false := by rfl) : EV X (.Compare a [.In] [b] pos) ρ μ (Bb (inD d ds)) μ2 := EV.cmp op_in_seq hm ha hb (r2_inC (neg := false) hn h1 h2)
theorem ints_flat (l : List Int) : (l.map PyData.int).all flatD = true := by
  rw [List.all_map]
  exact List.all_eq_true.mpr fun _ _ => rfl
section
variable {w : World} {P : Program} {K : PySem.W.Frag} {base : Heap} {mg : Str → Option Value} {C : Addr}
abbrev nIh : List Str := ["_law_each", "_law_many", "_law_spot", "_law_done", "_law_read", "_law_word", "_law_rest", "_law_step", "_law_side", "_law_far", "_law_label", "_law_k", "_law_mate", "_law_there"]
theorem scIh : FnScope nIh ["_law_each", "_law_many", "_law_spot"] (defScope sLIsHazard) := ⟨rfl, rfl, rfl, by decide +kernel, rfl, by decide +kernel, by decide +kernel⟩
def cnIh : Con := fun rs μ r μ' => ∃ (q : List G.Part) (n p : Int), rs = [Ls (q.map G.Part.d), Ii n, Ii p] ∧ (q ≠ [] ∧ q.length ≤ 9 ∧ ((∀ c ∈ q, c.word = "call") ∨ ∀ c ∈ q, GC.Nc63 c) ∧ 1 ≤ n ∧ n ≤ 100) ∧ r = Bb (decide (p ∈ GC.hazR q n)) ∧ μ' = μ
theorem cIh (T : Bt mg) (D : Df K mg "_law_is_hazard" sLIsHazard) : Cal P w K mg base "_law_is_hazard" 1 ["_law_each", "_law_many", "_law_spot"] cnIh := by
  refine D.cal scIh (fun _ _ _ _ _ _ us hl => match us, hl with | [_, _, _], _ => rfl) (by decide) (fun rs μ r μ' h => by obtain ⟨_, _, _, _, _, _, rfl⟩ := h; rfl) fun f cdv A outer s H E hr rs μ r μ' hC => ?_
  obtain ⟨q, n, p, rfl, ⟨hne, h9, hcase, n1, n2⟩, rfl, rfl⟩ := hC
  refine ST.par2 (i := 3) (j := 4) (EVF.lst (ds := []) AV.nil) (EVF.lst (ds := []) AV.nil) scIh.nd rfl rfl (by decide) rfl rfl ?_ rfl
  have cR : ∀ {a b : List PyData}, (μ' ++ [a] ++ [b])[μ'.length]? = some a := fun {a b} => by
    rw [List.append_assoc, List.getElem?_append_right (Nat.le_refl _), Nat.sub_self]
    rfl
  have cD : ∀ {a b : List PyData}, (μ' ++ [a] ++ [b])[μ'.length + 1]? = some b := fun {a b} => by
    rw [List.append_assoc, List.getElem?_append_right (by omega), show μ'.length + 1 - μ'.length = 1 by omega]
    rfl
  have sR : ∀ {a b c : List PyData}, (μ' ++ [a] ++ [b]).set μ'.length c = μ' ++ [c] ++ [b] := fun {a b c} => by
    rw [List.append_assoc, List.set_append_right _ _ (Nat.le_refl _), Nat.sub_self, List.append_assoc]
    rfl
  have sD : ∀ {a b c : List PyData}, (μ' ++ [a] ++ [b]).set (μ'.length + 1) c = μ' ++ [a] ++ [c] := fun {a b c} => by
    rw [List.append_assoc, List.set_append_right _ _ (by omega), show μ'.length + 1 - μ'.length = 1 by omega, List.append_assoc]
    rfl
  refine ST.envK (ρ' := [some (Ls (q.map G.Part.d)), some (Ii n), some (Ii p), some (.ptr (μ'.length + 1)), some (.ptr μ'.length), none, none, none, none, none, none, none, none, none]) rfl ?_
  refine ST.for_ (is := [5, 6, 7, 8, 9, 10]) (ds := q.map G.Part.d) (IV.lst (nm 0)) (fun i ρ ν => (∃ b5 b6 b7 b8 b9 b10 b11 b12 b13, ρ = [some (Ls (q.map G.Part.d)), some (Ii n), some (Ii p), some (.ptr (μ'.length + 1)), some (.ptr μ'.length), b5, b6, b7, b8, b9, b10, b11, b12, b13]) ∧ ν = μ' ++ [(GC.readTo (q.take i) n).map .int] ++ [(GC.doneTo (q.take i) n).map .int] ∧ ∀ c ∈ q.take i, c.word ≠ "call") ⟨⟨_, _, _, _, _, _, _, _, _, rfl⟩, rfl, fun c hc => by simp at hc⟩ (fun i d ρ ν hd hI => ?_) (fun ρ ν hI => ?_) rfl
  · obtain ⟨⟨b5, b6, b7, b8, b9, b10, b11, b12, b13, rfl⟩, rfl, hpre⟩ := hI
    obtain ⟨c, hc, rfl⟩ : ∃ c, q[i]? = some c ∧ d = c.d := by
      rw [List.getElem?_map] at hd
      cases z : q[i]? with
      | none => rw [z] at hd; cases hd
      | some c => rw [z] at hd; cases hd; exact ⟨c, rfl, rfl⟩
    have hcm := List.mem_iff_getElem?.mpr ⟨i, hc⟩
    have tk : q.take (i + 1) = q.take i ++ [c] := by rw [List.take_succ, hc]; rfl
    refine ⟨_, GV.tup (GsV.cons (GV.name (i := 5) scIh.nd rfl (Or.inl rfl) (by simp)) (GsV.cons (GV.name (i := 6) scIh.nd rfl (Or.inl rfl) (by simp)) (GsV.cons (GV.name (i := 7) scIh.nd rfl (Or.inl rfl) (by simp)) (GsV.cons (GV.name (i := 8) scIh.nd rfl (Or.inl rfl) (by simp)) (GsV.cons (GV.name (i := 9) scIh.nd rfl (Or.inl rfl) (by simp)) (GsV.cons (GV.name (i := 10) scIh.nd rfl (Or.inl rfl) (by simp)) GsV.nil)))))), ?_⟩
    refine ST.envK (ρ' := [some (Ls (q.map G.Part.d)), some (Ii n), some (Ii p), some (.ptr (μ'.length + 1)), some (.ptr μ'.length), some (Ss c.word), some (Ii c.over), some (Ii c.by_), some (Ss c.side), some (Ii c.far), some (Ss c.tag), b11, b12, b13]) rfl ?_
    refine ST.iff (k := decide (c.word = "call")) (TV.eq (tEq (d := .str c.word) (d2 := .str "call") (nm 5) EV.str) rfl) (fun hb => ?_) (fun hb => ?_)
    · have hcw := of_decide_eq_true hb
      have hall : ∀ c ∈ q, c.word = "call" := by
        rcases hcase with h | h
        · exact h
        · exfalso
          rcases (h c hcm).w with e | e | e <;> rw [e] at hcw <;> cases hcw
      have hz : GC.hazR q n = [] := by
        cases q with
        | nil => exact absurd rfl hne
        | cons a l => exact if_pos (hall a List.mem_cons_self)
      rw [hz]
      exact ST.ret (r := Bb false) EV.bl ⟨rfl, by simp⟩
    · have hcw := of_decide_eq_false hb
      have hnc : GC.Nc63 c := by
        rcases hcase with h | h
        · exact absurd (h c hcm) hcw
        · exact h c hcm
      have hR := rg_gen (e := c.over) (d := c.by_) (n := n) ⟨hnc.o, by have := hnc.r; have := hnc.b; omega⟩ ⟨hnc.b.1, by have := hnc.b; omega⟩ (by omega)
      have e1 : GC.readTo (q.take (i + 1)) n = GC.readTo (q.take i) n ++ M.readP c.word c.over c.by_ (GC.fA c) n := by
        unfold GC.readTo
        rw [tk, List.flatMap_append, List.flatMap_cons, List.flatMap_nil, List.append_nil]
      have e2 : GC.doneTo (q.take (i + 1)) n = GC.doneTo (q.take i) n ++ M.doneP c.word c.over c.by_ (GC.fA c) n := by
        unfold GC.doneTo
        rw [tk, List.flatMap_append, List.flatMap_cons, List.flatMap_nil, List.append_nil]
      have sl : (M.spots c.over n c.by_).length ≤ 100 := spots_len (by omega)
      have lR : (GC.readTo (q.take i) n).length ≤ 900 := by
        have h := flat100 (fun c : G.Part => M.readP c.word c.over c.by_ (GC.fA c) n) (q.take i) (fun y hy => by
          rcases hcase with h | h
          · exact absurd (h c hcm) hcw
          · have hy' := h y (List.mem_of_mem_take hy)
            have := rg_gen (e := y.over) (d := y.by_) (n := n) ⟨hy'.o, by have := hy'.r; have := hy'.b; omega⟩ ⟨hy'.b.1, by have := hy'.b; omega⟩ (by omega)
            exact read_len (x := GC.czA y) (by show (Builtin.Range.rangeSize y.over n y.by_).toNat ≤ 100; omega))
        have h2 : (q.take i).length ≤ q.length := by rw [List.length_take]; omega
        unfold GC.readTo
        omega
      have lD : (GC.doneTo (q.take i) n).length ≤ 900 := by
        have h := flat100 (fun c : G.Part => M.doneP c.word c.over c.by_ (GC.fA c) n) (q.take i) (fun y hy => by
          rcases hcase with h | h
          · exact absurd (h c hcm) hcw
          · have hy' := h y (List.mem_of_mem_take hy)
            have := rg_gen (e := y.over) (d := y.by_) (n := n) ⟨hy'.o, by have := hy'.r; have := hy'.b; omega⟩ ⟨hy'.b.1, by have := hy'.b; omega⟩ (by omega)
            exact done_len (x := GC.czA y) (by show (Builtin.Range.rangeSize y.over n y.by_).toNat ≤ 100; omega))
        have h2 : (q.take i).length ≤ q.length := by rw [List.length_take]; omega
        unfold GC.doneTo
        omega
      rw [e1, e2, ← GC.read_is63 hnc, ← GC.done_is hnc]
      generalize GC.readTo (q.take i) n = R0 at *
      generalize GC.doneTo (q.take i) n = D0 at *
      generalize hsp : M.spots c.over n c.by_ = sp at *
      refine ST.nil ?_
      refine ST.for_ (is := [11]) (ds := sp.map .int) (IV.eqD (IV.rng3 (nm 6) (nm 1) (nm 7) hR.1 T.range) (by rw [← hsp]; exact rngC_spots _ _ _)) (fun j ρ ν => (∃ b11 b12 b13, ρ = [some (Ls (q.map G.Part.d)), some (Ii n), some (Ii p), some (.ptr (μ'.length + 1)), some (.ptr μ'.length), some (Ss c.word), some (Ii c.over), some (Ii c.by_), some (Ss c.side), some (Ii c.far), some (Ss c.tag), b11, b12, b13]) ∧ ν = μ' ++ [(R0 ++ ((sp.take j).filter (GC.thereB c n)).map fun k => k + GC.fA c).map .int] ++ [(D0 ++ (sp.take j).filter (GC.doneB c n)).map .int]) ⟨⟨_, _, _, rfl⟩, by simp⟩ (fun j d ρ ν hd hI => ?_) (fun ρ ν hI => ?_) rfl
      · obtain ⟨⟨b11, b12, b13, rfl⟩, rfl⟩ := hI
        obtain ⟨k, hk, rfl⟩ : ∃ k, sp[j]? = some k ∧ d = .int k := by
          rw [List.getElem?_map] at hd
          cases z : sp[j]? with
          | none => rw [z] at hd; cases hd
          | some k => rw [z] at hd; cases hd; exact ⟨k, rfl, rfl⟩
        have tj : sp.take (j + 1) = sp.take j ++ [k] := by rw [List.take_succ, hk]; rfl
        have fR : ((sp.take j).filter (GC.thereB c n)).length ≤ 100 := by
          refine Nat.le_trans (List.length_filter_le _ _) ?_
          rw [List.length_take]
          omega
        have fD : ((sp.take j).filter (GC.doneB c n)).length ≤ 100 := by
          refine Nat.le_trans (List.length_filter_le _ _) ?_
          rw [List.length_take]
          omega
        have sR1 : (sp.take (j + 1)).filter (GC.thereB c n) = (sp.take j).filter (GC.thereB c n) ++ if GC.thereB c n k = true then [k] else [] := by
          rw [tj, List.filter_append]
          congr 1
          by_cases h : GC.thereB c n k = true
          · rw [List.filter_cons_of_pos h, if_pos h, List.filter_nil]
          · rw [List.filter_cons_of_neg h, if_neg h, List.filter_nil]
        have sD1 : (sp.take (j + 1)).filter (GC.doneB c n) = (sp.take j).filter (GC.doneB c n) ++ if GC.doneB c n k = true then [k] else [] := by
          rw [tj, List.filter_append]
          congr 1
          by_cases h : GC.doneB c n k = true
          · rw [List.filter_cons_of_pos h, if_pos h, List.filter_nil]
          · rw [List.filter_cons_of_neg h, if_neg h, List.filter_nil]
        rw [sR1, sD1]
        generalize (sp.take j).filter (GC.thereB c n) = R1 at *
        generalize (sp.take j).filter (GC.doneB c n) = D1 at *
        have hmate : c.word ≠ "clear" → (if c.side = "left" then k - c.far else k + c.far) = k + GC.fA c := fun h => by
          have hf : GC.fA c = if c.side = "right" then c.far else -c.far := by
            show (if c.word = "clear" then (0 : Int) else _) = _
            rw [if_neg h]
          rcases hnc.s with e | e | e
          · exact absurd e h
          · rw [hf, e, if_pos rfl, if_neg (by decide)]
            omega
          · rw [hf, e, if_neg (by decide), if_pos rfl]
        have hth : (!(eqS (.str c.word) (.str "clear")) && (decide (0 ≤ (if c.side = "left" then k - c.far else k + c.far)) && decide ((if c.side = "left" then k - c.far else k + c.far) < n))) = GC.thereB c n k := by
          unfold GC.thereB
          show (!(c.word == ("clear" : Str)) && _) = _
          by_cases h : c.word = "clear"
          · rw [h]
            rfl
          · rw [hmate h]
            rfl
        refine ⟨_, GV.name (i := 11) scIh.nd rfl (Or.inl rfl) (by simp), ?_⟩
        refine ST.set (i := 12) (r := Ii (if c.side = "left" then k - c.far else k + c.far)) (EV.ifx (k := decide (c.side = "left")) (TV.eq (tEq (d := .str c.side) (d2 := .str "left") (nm 8) EV.str) rfl) (fun hl => EV.eq (oSub (nm 11) (nm 9)) (by rw [if_pos (of_decide_eq_true hl)])) (fun hl => EV.eq (oAdd (nm 11) (nm 9)) (by rw [if_neg (of_decide_eq_false hl)]))) scIh.nd rfl (Or.inl rfl) ?_
        refine ST.set (i := 13) (r := Bb (GC.thereB c n k)) (EV.eq (EV.andD (cNe (nm 5) EV.str) fun _ => EV.one (chainLe op_le op_lt EV.int (nm 12) (nm 1))) (congrArg Bb hth)) scIh.nd rfl (Or.inl rfl) ?_
        refine ST.envK (ρ' := [some (Ls (q.map G.Part.d)), some (Ii n), some (Ii p), some (.ptr (μ'.length + 1)), some (.ptr μ'.length), some (Ss c.word), some (Ii c.over), some (Ii c.by_), some (Ss c.side), some (Ii c.far), some (Ss c.tag), some (Ii k), some (Ii (if c.side = "left" then k - c.far else k + c.far)), some (Bb (GC.thereB c n k))]) rfl ?_
        refine ST.iffM (k := GC.doneB c n k) [some (Ls (q.map G.Part.d)), some (Ii n), some (Ii p), some (.ptr (μ'.length + 1)), some (.ptr μ'.length), some (Ss c.word), some (Ii c.over), some (Ii c.by_), some (Ss c.side), some (Ii c.far), some (Ss c.tag), some (Ii k), some (Ii (if c.side = "left" then k - c.far else k + c.far)), some (Bb (GC.thereB c n k))] (μ' ++ [(R0 ++ R1.map fun k => k + GC.fA c).map .int] ++ [(D0 ++ (D1 ++ if GC.doneB c n k = true then [k] else [])).map .int]) (TV.eq (WV.tv (WV.orP (TV.val (nm 13)) (WV.or1 (tNe (d := .str c.word) (d2 := .str "join") (nm 5) EV.str)))) rfl) (fun hb2 => ?_) (fun hb2 => ?_) ?_
        · refine ST.expr (EV.app (d := .int k) (nm 3) (nm 11) cD (by rw [List.length_map, List.length_append]; omega)) (ST.nil ⟨rfl, ?_⟩)
          rw [sD, if_pos hb2, ← List.append_assoc, List.map_append (l₂ := [k])]
          rfl
        · exact ST.nil ⟨rfl, by rw [if_neg (by rw [hb2]; decide), List.append_nil]⟩
        · refine ST.iff (k := GC.thereB c n k) (TV.val (nm 13)) (fun ht => ?_) (fun ht => ST.nil (ST.nil ⟨⟨_, _, _, rfl⟩, by
            have e : (if GC.thereB c n k = true then [k] else []) = ([] : List Int) := if_neg (by rw [ht]; decide)
            rw [e, List.append_nil]⟩))
          have hnw : c.word ≠ "clear" := fun z => by
            unfold GC.thereB at ht
            rw [z] at ht
            cases ht
          refine ST.expr (EV.app (d := .int (k + GC.fA c)) (nm 4) (EV.eq (nm 12) (by rw [hmate hnw])) cR (by rw [List.length_map, List.length_append, List.length_map]; omega)) (ST.nil (ST.nil ⟨⟨_, _, _, rfl⟩, ?_⟩))
          have e : (if GC.thereB c n k = true then [k] else []) = [k] := if_pos ht
          rw [sR, e]
          simp [List.map_append, List.append_assoc]
      · obtain ⟨⟨b11, b12, b13, rfl⟩, rfl⟩ := hI
        rw [List.length_map, List.take_length]
        refine ST.nil ⟨⟨_, _, _, _, _, _, _, _, _, rfl⟩, rfl, fun y hy => ?_⟩
        rw [tk] at hy
        rcases List.mem_append.mp hy with hy | hy
        · exact hpre y hy
        · rw [List.mem_singleton.mp hy]
          exact hcw
  · obtain ⟨⟨b5, b6, b7, b8, b9, b10, b11, b12, b13, rfl⟩, rfl, hpre⟩ := hI
    rw [List.length_map, List.take_length]
    rw [List.length_map, List.take_length] at hpre
    cases q with
    | nil => exact absurd rfl hne
    | cons c cs =>
      have hc := hpre c List.mem_cons_self
      refine ST.retP (r' := Bb (decide (p ∈ GC.hazR (c :: cs) n))) (EV.eq (EV.andD (cInC (nm 2) (nm 3) cD rfl (ints_flat _)) fun _ => EV.one (cInC (nm 2) (nm 4) cR rfl (ints_flat _))) (by rw [inD_ints, inD_ints, GC.haz_is hc])) rfl (by rw [List.append_assoc, List.take_append_of_le_length (Nat.le_refl _), List.take_length])
theorem plan_short {ls : List Str} {i : Nat} {x : G.Mate} (h : GC.PlGood ls i x) (hn : ∀ s ∈ ls, M.nameOk s = true) : (M.planText (G.told x)).length ≤ 4000 := by
  have e : M.planText (G.told x) = Txt.join "\n" (M.headText x.tag (G.aim x.goal) x.base :: x.rounds.map G.line) := by
    show Txt.join "\n" (M.headText x.tag (G.aim x.goal) x.base :: (x.rounds.map fun r => PyData.str (G.line r)).map M.strOf) = _
    rw [List.map_map]
    rfl
  rw [e]
  have h1 := join_le "\n" (M.headText x.tag (G.aim x.goal) x.base :: x.rounds.map G.line)
  have h2 := head_len (hn _ (List.mem_iff_getElem?.mpr ⟨i, h.tag⟩)) h.goal h.base.1 h.base.2
  have h3 := sum_le (fun y : Str => y.length) 600 (x.rounds.map G.line) (fun y hy => by
    obtain ⟨r, hr, rfl⟩ := List.mem_map.mp hy
    exact line_len (h.ok r hr).1 (h.ok r hr).2)
  have h5 : (("\n" : Str)).length = 1 := rfl
  rw [h5, List.map_cons, List.sum_cons, List.length_cons, List.length_map] at h1
  rw [List.length_map] at h3
  have h6 := h.many.2
  have h7 : x.rounds.length * 600 ≤ 5 * 600 := Nat.mul_le_mul_right _ h6
  omega
theorem book_short {ls : List Str} {ms : List G.Mate} (h4 : ms.length ≤ 4) (hn : ∀ s ∈ ls, M.nameOk s = true) (h : ∀ (i : Nat) (x : G.Mate), ms[i]? = some x → GC.PlGood ls i x) : (M.bookText (ms.map G.told)).length ≤ 90000 := by
  have h1 := join_le "\n" ((ms.map G.told).map M.planText)
  have h3 := sum_le (fun y : Str => y.length) 4000 ((ms.map G.told).map M.planText) (fun y hy => by
    obtain ⟨t, ht, rfl⟩ := List.mem_map.mp hy
    obtain ⟨x, hx, rfl⟩ := List.mem_map.mp ht
    obtain ⟨i, e⟩ := List.mem_iff_getElem?.mp hx
    exact plan_short (h i x e) hn)
  have h5 : (("\n" : Str)).length = 1 := rfl
  rw [h5, List.length_map, List.length_map] at h1
  rw [List.length_map, List.length_map] at h3
  have h7 : ms.length * 4000 ≤ 4 * 4000 := Nat.mul_le_mul_right _ h4
  unfold M.bookText
  omega
/-- the rounds of a drawn plan, for the law's own look -/
theorem round_case {ls : List Str} {i : Nat} {x : G.Mate} (h : GC.PlGood ls i x) {q : List G.Part} (hq : q ∈ x.rounds) : q ≠ [] ∧ q.length ≤ 9 ∧ ((∀ c ∈ q, c.word = "call") ∨ ∀ c ∈ q, GC.Nc63 c) := by
  have rg := h.rounds q hq
  have hl := rg.len
  rw [List.length_map] at hl
  refine ⟨fun z => by rw [z] at hl; simp at hl, by omega, ?_⟩
  rcases rg.calls with hc | hc
  · exact .inl fun c hcm => (GC.norm_eq c).1.symm.trans (hc (GC.norm c) (List.mem_map_of_mem hcm)).1
  · refine .inr fun c hcm => ?_
    have g := rg.good (GC.norm c) (List.mem_map_of_mem hcm)
    have hw := hc (GC.norm c) (List.mem_map_of_mem hcm)
    obtain ⟨e1, e2, e3, _⟩ := GC.norm_eq c
    have gb := g.b
    have go := g.o
    rw [e3] at gb go
    rw [e2] at go
    rcases g.k with ⟨k, _⟩ | ⟨k, _⟩ | ⟨k, k2, _⟩
    · exact absurd k hw
    · exact ⟨.inr (.inr (e1.symm.trans k)), .inl (e1.symm.trans k), go.1, gb, go.2⟩
    · have hnc : c.word ≠ "clear" := fun z => by
        have k' : (GC.norm c).word = "clear" := e1.trans z
        rcases k with k | k <;> rw [k] at k' <;> cases k'
      have en : GC.norm c = c := if_neg hnc
      rw [en] at k k2
      exact ⟨k.elim .inl fun k => .inr (.inl k), .inr k2, go.1, gb, go.2⟩
theorem sho_b (b : Bool) : Sho (.bool b) := by
  cases b <;> exact ⟨rfl, rfl, by simp [PyData.depth], by decide, fun j z => by cases z⟩
theorem u100 {k : Nat} {A : Around} (r : Room k A) : A.units + 100 < cLine := by
  have := r.un
  omega
abbrev nRt : List Str := ["_law_cup_here", "_law_sketch_here", "_law_page", "_law_plan_here", "_law_index", "_law_k", "_law_many", "_law_spot", "_law_due"]
theorem scRt : FnScope nRt ["_law_cup_here"] (defScope sLRight) := ⟨rfl, rfl, rfl, by decide +kernel, rfl, by decide +kernel, by decide +kernel⟩
def cnRt : ConP := fun rs μ Φ => ∃ (k : Nat) (p : GC.Cu), rs = [.ptr k] ∧ (μ[k]? = some p.ds ∧ p.ok) ∧ Φ = fun r μ' => r = Bb true ∧ ∃ ds, μ' = μ.set k ds
theorem cRt (T : Bt mg) (C1 : CSip P w K mg base) (C2 : CSke P w K mg base) (C3 : Cal P w K mg base "_law_vol" 10 ["_law_sketch_here"] (cnVol C)) (M8 : Own P w K mg base C "__str__" 2 (cnStr C)) (C4 : Cal P w K mg base "_law_is_hazard" 1 ["_law_each", "_law_many", "_law_spot"] cnIh) (C5 : Cal P w K mg base "accepts" 11 ["claim", "certificate"] cnAcH) (D : Df K mg "_law_right" sLRight) :
    CalGP P w K mg base "_law_right" 12 ["_law_cup_here"] cnRt := by
  refine D.calGP scRt (fun _ _ _ _ _ _ us hl => match us, hl with | [_], _ => rfl) (by decide) fun f cdv A outer s H E hgd hr rs μ Φ hC => ?_
  obtain ⟨k, p, rfl, ⟨hk, hp⟩, rfl⟩ := hC
  obtain ⟨a0, a1, hp1⟩ := GC.sip_ok (t := 3) hp (by decide)
  have hn1 : 1 + (GC.sip 3 p).1 = (((1 + (GC.sip 3 p).1).toNat : Nat) : Int) := by omega
  have hn3 : (1 + (GC.sip 3 p).1).toNat ≤ 3 := by omega
  have hn0 : 1 ≤ (1 + (GC.sip 3 p).1).toNat := by omega
  refine ST.set (i := 1) (EV.call C2 (hr.mono (by decide)) (AV.cons (nm 0) (AV.cons (EV.eq (oAdd EV.int (EV.sip C1 hr (by decide) (nm 0) EV.int hk hp)) (congrArg Ii hn1)) (AV.cons EV.int AV.nil))) ⟨k, (GC.sip 3 p).2, _, 3, rfl, ⟨at_set hk, hp1, by omega, by decide, by decide⟩, rfl, rfl⟩) scRt.nd rfl (by first | exact Or.inl rfl | exact Or.inr rfl) ?_
  obtain ⟨ls, l1, l2, l3, s1, s2, s3⟩ := GC.sketch_get (n := (1 + (GC.sip 3 p).1).toNat) (most := 3) hp1 (by omega) (by decide) (by decide)
  rw [ssetC]
  generalize (GC.sketch (1 + (GC.sip 3 p).1).toNat 3 (GC.sip 3 p).2).1 = ms at *
  generalize (GC.sketch (1 + (GC.sip 3 p).1).toNat 3 (GC.sip 3 p).2).2 = q0 at *
  have hG := GC.told_good l1 l2 (by omega) (by omega) (by omega) s3
  have S : GC.SkA ms := ⟨hG, fun i x e => ⟨ls, s3 i x e⟩⟩
  have hok : ∀ x ∈ ms, GC.PlOk x := fun x hx => by
    obtain ⟨i, e⟩ := List.mem_iff_getElem?.mp hx
    exact GC.pl_ok (s3 i x e) l2
  have hbs := book_short (by omega) l2 s3
  refine ST.set (i := 2) (r := Ss (M.bookText (ms.map G.told))) (EV.strO T.str (EV.call C3 (hr.mono (by decide)) (AV.cons (nm 1) AV.nil) ⟨ms, rfl, ⟨by omega, hok, hG⟩, rfl, rfl⟩) M8 (hr.mono (by decide)) ⟨_, rfl, hG, rfl, rfl⟩) scRt.nd rfl (by first | exact Or.inl rfl | exact Or.inr rfl) ?_
  obtain ⟨tx, etx⟩ : ∃ tx, tx = M.bookText (ms.map G.told) := ⟨_, rfl⟩
  refine ST.envK (ρ' := [some (.ptr k), some (Ls (ms.map GC.pd)), some (Ss tx), none, none, none, none, none, none]) (by rw [etx]; rfl) ?_
  refine ST.for_ (is := [3]) (ds := ms.map GC.pd) (IV.lst (nm 1)) (fun i ρ ν => (∃ b3 b4 b5 b6 b7 b8, ρ = [some (.ptr k), some (Ls (ms.map GC.pd)), some (Ss tx), b3, b4, b5, b6, b7, b8]) ∧ ∃ q : GC.Cu, q.ok ∧ ν = μ.set k q.ds) ⟨⟨_, _, _, _, _, _, rfl⟩, q0, s2, rfl⟩ (fun i d ρ ν hd hI => ?_) (fun ρ ν hI => ?_)
  · obtain ⟨⟨b3, b4, b5, b6, b7, b8, rfl⟩, q, hq, rfl⟩ := hI
    obtain ⟨x, hx, rfl⟩ : ∃ x, ms[i]? = some x ∧ d = GC.pd x := by
      rw [List.getElem?_map] at hd
      cases z : ms[i]? with
      | none => rw [z] at hd; cases hd
      | some x => rw [z] at hd; cases hd; exact ⟨x, rfl, rfl⟩
    have pl := s3 i x hx
    have hr5 := pl.many
    have p0 : ([PyData.str x.tag, .tuple [.str x.goal.1, .int x.goal.2], .int x.base, .list (x.rounds.map fun r => .list (r.map G.Part.d))])[0]? = some (.str x.tag) := rfl
    have p3 : ([PyData.str x.tag, .tuple [.str x.goal.1, .int x.goal.2], .int x.base, .list (x.rounds.map fun r => .list (r.map G.Part.d))])[3]? = some (.list (x.rounds.map fun r => .list (r.map G.Part.d))) := rfl
    refine ⟨_, GV.name (i := 3) scRt.nd rfl (by first | exact Or.inl rfl | exact Or.inr rfl) (by simp), ?_⟩
    refine ST.envK (ρ' := [some (.ptr k), some (Ls (ms.map GC.pd)), some (Ss tx), some (.dat (GC.pd x)), b4, b5, b6, b7, b8]) rfl ?_
    have elen : (x.rounds.map fun r => PyData.list (r.map G.Part.d)).length = x.rounds.length := List.length_map _
    refine ST.for_ (is := [4]) (ds := [.int (-1), .bool true] ++ rngD 0 (x.rounds.length + 1)) (IV.lst (oCat (EV.lst (ds := [.int (-1), .bool true]) (AV.cons (EV.neg EV.int) (AV.cons EV.bl AV.nil))) (EV.eq (EVF.lstRg T.list T.range rfl (oAdd (bLenL T (ixL (nm 3) EV.int (at_nat p3))) EV.int) (by omega) (by omega)).ev (by rw [elen]; congr 2)) (by rw [rngD_len]; exact sz (by simp; omega)))) (fun j ρ ν => (∃ b4 b5 b6 b7 b8, ρ = [some (.ptr k), some (Ls (ms.map GC.pd)), some (Ss tx), some (.dat (GC.pd x)), b4, b5, b6, b7, b8]) ∧ ∃ q : GC.Cu, q.ok ∧ ν = μ.set k q.ds) ⟨⟨_, _, _, _, _, rfl⟩, q, hq, rfl⟩ (fun j d ρ ν hd hI => ?_) (fun ρ ν hI => ?_)
    · obtain ⟨⟨b4, b5, b6, b7, b8, rfl⟩, q, hq, rfl⟩ := hI
      have hcs : (∃ m : Int, d = .int m) ∨ d = .bool true := by
        rcases List.mem_append.mp (List.mem_iff_getElem?.mpr ⟨j, hd⟩) with h | h
        · simp only [List.mem_cons, List.not_mem_nil, or_false] at h
          rcases h with rfl | rfl
          · exact .inl ⟨_, rfl⟩
          · exact .inr rfl
        · unfold rngD at h
          obtain ⟨t, _, rfl⟩ := List.mem_map.mp h
          exact .inl ⟨_, rfl⟩
      refine ⟨_, GV.name (i := 4) scRt.nd rfl (by first | exact Or.inl rfl | exact Or.inr rfl) (by simp), ?_⟩
      rcases hcs with ⟨m, rfl⟩ | rfl
      · refine ST.envK (ρ' := [some (.ptr k), some (Ls (ms.map GC.pd)), some (Ss tx), some (.dat (GC.pd x)), some (.dat (.int m)), b5, b6, b7, b8]) rfl ?_
        refine ST.for_ (is := [5]) (ds := rngD 0 3) (IV.eqD (IV.rng1 EV.int (by decide) (by decide) T.range) rfl) (fun l ρ ν => (∃ b5 b6 b7 b8, ρ = [some (.ptr k), some (Ls (ms.map GC.pd)), some (Ss tx), some (.dat (GC.pd x)), some (.dat (.int m)), b5, b6, b7, b8]) ∧ ∃ q : GC.Cu, q.ok ∧ ν = μ.set k q.ds) ⟨⟨_, _, _, _, rfl⟩, q, hq, rfl⟩ (fun l d ρ ν hd hI => ?_) (fun ρ ν hI => ?_)
        · obtain ⟨⟨b5, b6, b7, b8, rfl⟩, q, hq, rfl⟩ := hI
          obtain ⟨x0, x1, hq1⟩ := GC.sip_ok (t := 12) hq (by decide)
          obtain ⟨y0, y1, hq2⟩ := GC.sip_ok (t := 1 + (GC.sip 12 q).1) hq1 (by omega)
          have hk1 : (μ.set k q.ds)[k]? = some q.ds := at_set hk
          refine ⟨_, GV.name (i := 5) scRt.nd rfl (by first | exact Or.inl rfl | exact Or.inr rfl) (by simp), ?_⟩
          refine ST.set (i := 6) (oAdd EV.int (EV.sip C1 hr (by decide) (nm 0) EV.int hk1 hq)) scRt.nd rfl (by first | exact Or.inl rfl | exact Or.inr rfl) ?_
          rw [ssetC]
          have hk2 : (μ.set k (GC.sip 12 q).2.ds)[k]? = some (GC.sip 12 q).2.ds := at_set hk
          refine ST.set (i := 7) (EV.sip C1 hr (by decide) (nm 0) (nm 6) hk2 hq1 (by omega) (by omega)) scRt.nd rfl (by first | exact Or.inl rfl | exact Or.inr rfl) ?_
          rw [ssetC]
          generalize (GC.sip (1 + (GC.sip 12 q).1) (GC.sip 12 q).2).2 = q2 at *
          generalize (GC.sip (1 + (GC.sip 12 q).1) (GC.sip 12 q).2).1 = pp at *
          generalize hnn : 1 + (GC.sip 12 q).1 = nn at *
          obtain ⟨b5', e5⟩ : ∃ b5' : Option Ent, b5' = some (.dat d) := ⟨_, rfl⟩
          refine ST.envK (ρ' := [some (.ptr k), some (Ls (ms.map GC.pd)), some (Ss tx), some (.dat (GC.pd x)), some (.dat (.int m)), b5', some (Ii nn), some (Ii pp), b8]) (by rw [e5]; rfl) ?_
          refine ST.set (i := 8) (r := Bb (decide (0 ≤ m) && decide (m < (x.rounds.length : Int)))) (EV.eq (EV.andD (k := true) (EV.eq (EV.not (isI T (T' := "bool") (k := false) (nm 4) rfl rfl T.bool)) rfl) fun _ => EV.one (chainLe op_le op_lt EV.int (nm 4) (EV.eq (bLenL T (ixL (nm 3) EV.int (at_nat p3))) (congrArg (fun n : Nat => Ii (n : Int)) elen)))) rfl) scRt.nd rfl (by first | exact Or.inl rfl | exact Or.inr rfl) ?_
          refine ST.envK (ρ' := [some (.ptr k), some (Ls (ms.map GC.pd)), some (Ss tx), some (.dat (GC.pd x)), some (.dat (.int m)), b5', some (Ii nn), some (Ii pp), some (Bb (decide (0 ≤ m) && decide (m < (x.rounds.length : Int))))]) rfl ?_
          refine ST.set (i := 8) (r := Bb (GC.hazB x (.int m) nn pp)) (EV.eq (EV.andD (l := decide (pp ∈ GC.hazR (x.rounds.getD m.toNat []) nn)) (nm 8) fun hz => EV.one (by
            rw [Bool.and_eq_true, decide_eq_true_eq, decide_eq_true_eq] at hz
            have em : ((m.toNat : Nat) : Int) = m := Int.toNat_of_nonneg hz.1
            have hlt : m.toNat < x.rounds.length := by omega
            obtain ⟨qq, hg⟩ : ∃ qq, x.rounds[m.toNat]? = some qq := ⟨x.rounds[m.toNat], List.getElem?_eq_getElem hlt⟩
            have hgd2 : x.rounds.getD m.toNat [] = qq := by rw [List.getD_eq_getElem?_getD, hg]; rfl
            obtain ⟨r1, r2, r3⟩ := round_case pl (List.mem_iff_getElem?.mpr ⟨_, hg⟩)
            rw [hgd2]
            exact EV.call C4 (hr.mono (by decide)) (AV.cons (ixL (ixL (nm 3) EV.int (at_nat p3)) (nm 4) (by
              have h := at_nat (show (x.rounds.map fun r => PyData.list (r.map G.Part.d))[m.toNat]? = some (.list (qq.map G.Part.d)) by rw [List.getElem?_map, hg]; rfl)
              rwa [em] at h)) (AV.cons (nm 6) (AV.cons (nm 7) AV.nil))) ⟨qq, nn, pp, rfl, ⟨r1, r2, r3, by omega, by omega⟩, rfl, rfl⟩)) rfl) scRt.nd rfl (by first | exact Or.inl rfl | exact Or.inr rfl) ?_
          refine ST.envK (ρ' := [some (.ptr k), some (Ls (ms.map GC.pd)), some (Ss tx), some (.dat (GC.pd x)), some (.dat (.int m)), b5', some (Ii nn), some (Ii pp), some (Bb (GC.hazB x (.int m) nn pp))]) rfl ?_
          exact ST.ifNo (TV.eq (tNe (EV.reprX T.repr hgd (u100 hr) (d := .bool (GC.hazB x (.int m) nn pp)) (EV.call C5 hr (AV.cons (EV.tup (ds := [.str "hazard", .str tx, .str x.tag, .int nn, .int pp]) (AV.cons EV.str (AV.cons (nm 2) (AV.cons (ixL (nm 3) EV.int (at_nat p0)) (AV.cons (nm 6) (AV.cons (nm 7) AV.nil)))))) (AV.cons (nm 4) AV.nil)) ⟨ms, i, x, (.int m), nn, pp, by rw [etx], ⟨S, hx, by omega, by omega, by omega, by omega, rfl, hbs⟩, rfl, rfl⟩) (sho_b _)) (EV.reprX T.repr hgd (u100 hr) (d := .bool (GC.hazB x (.int m) nn pp)) (nm 8) (sho_b _))) (eqS_same _)) rfl (ST.nil ⟨⟨_, _, _, _, rfl⟩, q2, hq2, rfl⟩)
        · obtain ⟨⟨b5, b6, b7, b8, rfl⟩, hq⟩ := hI
          exact ST.nil ⟨⟨_, _, _, _, _, rfl⟩, hq⟩
      · refine ST.envK (ρ' := [some (.ptr k), some (Ls (ms.map GC.pd)), some (Ss tx), some (.dat (GC.pd x)), some (.dat (.bool true)), b5, b6, b7, b8]) rfl ?_
        refine ST.for_ (is := [5]) (ds := rngD 0 3) (IV.eqD (IV.rng1 EV.int (by decide) (by decide) T.range) rfl) (fun l ρ ν => (∃ b5 b6 b7 b8, ρ = [some (.ptr k), some (Ls (ms.map GC.pd)), some (Ss tx), some (.dat (GC.pd x)), some (.dat (.bool true)), b5, b6, b7, b8]) ∧ ∃ q : GC.Cu, q.ok ∧ ν = μ.set k q.ds) ⟨⟨_, _, _, _, rfl⟩, q, hq, rfl⟩ (fun l d ρ ν hd hI => ?_) (fun ρ ν hI => ?_)
        · obtain ⟨⟨b5, b6, b7, b8, rfl⟩, q, hq, rfl⟩ := hI
          obtain ⟨x0, x1, hq1⟩ := GC.sip_ok (t := 12) hq (by decide)
          obtain ⟨y0, y1, hq2⟩ := GC.sip_ok (t := 1 + (GC.sip 12 q).1) hq1 (by omega)
          have hk1 : (μ.set k q.ds)[k]? = some q.ds := at_set hk
          refine ⟨_, GV.name (i := 5) scRt.nd rfl (by first | exact Or.inl rfl | exact Or.inr rfl) (by simp), ?_⟩
          refine ST.set (i := 6) (oAdd EV.int (EV.sip C1 hr (by decide) (nm 0) EV.int hk1 hq)) scRt.nd rfl (by first | exact Or.inl rfl | exact Or.inr rfl) ?_
          rw [ssetC]
          have hk2 : (μ.set k (GC.sip 12 q).2.ds)[k]? = some (GC.sip 12 q).2.ds := at_set hk
          refine ST.set (i := 7) (EV.sip C1 hr (by decide) (nm 0) (nm 6) hk2 hq1 (by omega) (by omega)) scRt.nd rfl (by first | exact Or.inl rfl | exact Or.inr rfl) ?_
          rw [ssetC]
          generalize (GC.sip (1 + (GC.sip 12 q).1) (GC.sip 12 q).2).2 = q2 at *
          generalize (GC.sip (1 + (GC.sip 12 q).1) (GC.sip 12 q).2).1 = pp at *
          generalize hnn : 1 + (GC.sip 12 q).1 = nn at *
          obtain ⟨b5', e5⟩ : ∃ b5' : Option Ent, b5' = some (.dat d) := ⟨_, rfl⟩
          refine ST.envK (ρ' := [some (.ptr k), some (Ls (ms.map GC.pd)), some (Ss tx), some (.dat (GC.pd x)), some (.dat (.bool true)), b5', some (Ii nn), some (Ii pp), b8]) (by rw [e5]; rfl) ?_
          refine ST.set (i := 8) (r := Bb false) (EV.eq (EV.andD (k := false) (l := false) (EV.eq (EV.not (isI T (T' := "bool") (k := true) (nm 4) rfl rfl T.bool)) rfl) fun z => by cases z) rfl) scRt.nd rfl (by first | exact Or.inl rfl | exact Or.inr rfl) ?_
          refine ST.envK (ρ' := [some (.ptr k), some (Ls (ms.map GC.pd)), some (Ss tx), some (.dat (GC.pd x)), some (.dat (.bool true)), b5', some (Ii nn), some (Ii pp), some (Bb false)]) rfl ?_
          refine ST.set (i := 8) (r := Bb (GC.hazB x (.bool true) nn pp)) (EV.eq (EV.andD (k := false) (l := false) (nm 8) fun z => by cases z) rfl) scRt.nd rfl (by first | exact Or.inl rfl | exact Or.inr rfl) ?_
          refine ST.envK (ρ' := [some (.ptr k), some (Ls (ms.map GC.pd)), some (Ss tx), some (.dat (GC.pd x)), some (.dat (.bool true)), b5', some (Ii nn), some (Ii pp), some (Bb (GC.hazB x (.bool true) nn pp))]) rfl ?_
          exact ST.ifNo (TV.eq (tNe (EV.reprX T.repr hgd (u100 hr) (d := .bool (GC.hazB x (.bool true) nn pp)) (EV.call C5 hr (AV.cons (EV.tup (ds := [.str "hazard", .str tx, .str x.tag, .int nn, .int pp]) (AV.cons EV.str (AV.cons (nm 2) (AV.cons (ixL (nm 3) EV.int (at_nat p0)) (AV.cons (nm 6) (AV.cons (nm 7) AV.nil)))))) (AV.cons (nm 4) AV.nil)) ⟨ms, i, x, (.bool true), nn, pp, by rw [etx], ⟨S, hx, by omega, by omega, by omega, by omega, rfl, hbs⟩, rfl, rfl⟩) (sho_b _)) (EV.reprX T.repr hgd (u100 hr) (d := .bool (GC.hazB x (.bool true) nn pp)) (nm 8) (sho_b _))) (eqS_same _)) rfl (ST.nil ⟨⟨_, _, _, _, rfl⟩, q2, hq2, rfl⟩)
        · obtain ⟨⟨b5, b6, b7, b8, rfl⟩, hq⟩ := hI
          exact ST.nil ⟨⟨_, _, _, _, _, rfl⟩, hq⟩
    · obtain ⟨⟨b4, b5, b6, b7, b8, rfl⟩, hq⟩ := hI
      exact ST.nil ⟨⟨_, _, _, _, _, _, rfl⟩, hq⟩
  · obtain ⟨⟨b3, b4, b5, b6, b7, b8, rfl⟩, q, hq, rfl⟩ := hI
    refine ST.retQ EV.bl ⟨rfl, q.ds, take_set⟩
end
end J
/-! ZB: from what the top has written to facts of defs, methods, classes. -/
namespace J
open PySem PySem.Spec
open PyProof.Rows L2
variable [KC]
section
variable {P : Program} {w : World} {K : PySem.W.Frag} {mg : Str → Option Value} {base h : Heap} {C : Addr}
theorem df_mk {n : Str} {st : Stmt} {f : Addr} {od an : Option Addr} {sl : Array (Option Value)} {oc kV dc pm cd ct : Value} (X : K.In h) (G : h.Ns mainGlobals mg) (a : PySem.W.nsIn K mainGlobals n = some (some (.ref f)))
    (l : K.lookup f = some ⟨oc, od, .func (PySem.W.fnOf n n (defArgs st) (defBody st) (defScope st) .none kV dc pm an cd ct), sl⟩) (c : PySem.W.codeIn K cd n = true) (k : PySem.W.keepIn K (.ref f) = true) : Df K mg n st := ⟨f, _, fun_mk l c k, PySem.W.mg_of X G a⟩
/-- a method by its name and its text -/
structure MFun (K : PySem.W.Frag) (C : Addr) (m qual : Str) (st : Stmt) : Prop where
  ex : ∃ f fd, Fun K m qual st f fd ∧ PySem.W.findIn K (.ref C) m = some (some (.ref f)) ∧ PySem.W.isFn K (.ref f) = true
theorem mf_mk {m qual : Str} {st : Stmt} {f : Addr} {od an : Option Addr} {sl : Array (Option Value)} {oc kV dc pm cd ct : Value} (a : PySem.W.findIn K (.ref C) m = some (some (.ref f))) (i : PySem.W.isFn K (.ref f) = true)
    (l : K.lookup f = some ⟨oc, od, .func (PySem.W.fnOf m qual (defArgs st) (defBody st) (defScope st) .none kV dc pm an cd ct), sl⟩) (c : PySem.W.codeIn K cd qual = true) (k : PySem.W.keepIn K (.ref f) = true) : MFun K C m qual st := ⟨f, _, fun_mk l c k, a, i⟩
/-- a property by its name and its getter's text -/
structure PFun (K : PySem.W.Frag) (C : Addr) (m qual : Str) (st : Stmt) : Prop where
  ex : ∃ p f fd, Fun K m qual st f fd ∧ PropOf K C m p f
theorem pf_mk {m qual : Str} {st : Stmt} {p f : Addr} {rest : List Value} {od an : Option Addr} {sl : Array (Option Value)} {oc kV dc pm cd ct : Value} (a : PySem.W.findIn K (.ref C) m = some (some (.ref p))) (g : PySem.W.specialIn K (.ref p) "__get__" = some (some (.builtin "property.__get__"))) (t : PySem.W.takesIn K (.ref p) = some true) (r : PySem.W.recIn K p "property" = some (.ref f :: rest))
    (l : K.lookup f = some ⟨oc, od, .func (PySem.W.fnOf m qual (defArgs st) (defBody st) (defScope st) .none kV dc pm an cd ct), sl⟩) (c : PySem.W.codeIn K cd qual = true) (k : PySem.W.keepIn K (.ref f) = true) : PFun K C m qual st := ⟨p, f, _, fun_mk l c k, a, g, t, rest, r⟩
/-- a classmethod -/
structure CFun (K : PySem.W.Frag) (C : Addr) (m qual : Str) (st : Stmt) : Prop where
  ex : ∃ mc p g fd, ClX.CRead K C mc ∧ ClX.CMet K C mc m p g ∧ Fun K m qual st g fd
theorem cf_mk {m qual : Str} {st : Stmt} {mc : Value} {p g : Addr} {rest : List Value} {od an : Option Addr} {sl : Array (Option Value)} {oc kV dc pm cd ct : Value} (rd : PySem.W.readsIn K C mc = true) (ga : PySem.W.specialIn K (.ref C) "__getattribute__" = some (some (.builtin "type.__getattribute__"))) (at_ : PySem.W.findCls K (.ref C) mc m = some (.get (.builtin "classmethod.__get__") (.ref p) .none (.ref C)))
    (rc : PySem.W.recIn K p "classmethod" = some (.ref g :: rest)) (fi : PySem.W.fnIn K g = true) (l : K.lookup g = some ⟨oc, od, .func (PySem.W.fnOf m qual (defArgs st) (defBody st) (defScope st) .none kV dc pm an cd ct), sl⟩) (c : PySem.W.codeIn K cd qual = true) (k : PySem.W.keepIn K (.ref g) = true) : CFun K C m qual st := ⟨mc, p, g, _, ⟨rd, ga⟩, ⟨at_, ⟨rest, rc⟩, fi⟩, fun_mk l c k⟩
theorem gl_of {n : Str} {v : Value} (X : K.In h) (G : h.Ns mainGlobals mg) (e : PySem.W.nsIn K mainGlobals n = some (some v)) : mg n = some v := PySem.W.mg_of X G e
theorem no_of {n : Str} (X : K.In h) (G : h.Ns mainGlobals mg) (e : PySem.W.nsIn K mainGlobals n = some none) : mg n = none := PySem.W.mg_none_of X G e
theorem gx_of {n : Str} {v : Tok → Value} {t : Tok} (X : K.In h) (G : h.Ns mainGlobals mg) (e : PySem.W.nsIn K mainGlobals n = some (some (v t))) : ∃ t, mg n = some (v t) := ⟨t, PySem.W.mg_of X G e⟩
end
theorem kit_of {K : PySem.W.Frag} {C : Addr} {t : Value} {b : Bool} (hd : PySem.W.hasDictIn K C = true) (ht : PySem.W.typeIn K (.ref C) = some (.type "type")) (hn : (t == .ref C) = false) (hs : PySem.W.subIn K t (.ref C) = some b) : PySem.W.kitOne K t (.ref C) = some b := by
  obtain ⟨cd, hc, _⟩ := PySem.W.any_some hd
  unfold PySem.W.kitOne PySem.W.kitCls
  rw [hn, if_neg Bool.false_ne_true]
  show (if ((PySem.W.clsIn K C).isSome && PySem.W.typeIn K (.ref C) == some (.type "type")) = true then PySem.W.subIn K t (.ref C) else none) = some b
  have e : ((PySem.W.clsIn K C).isSome && PySem.W.typeIn K (.ref C) == some (.type "type")) = true := by rw [hc, ht]; rfl
  rw [if_pos e]
  exact hs
end J
/-! PA3: the checker's two dicts, from what the top has written. -/
namespace J
open PySem PySem.Spec
open PyProof.Rows L2
variable [KC]
def gad (K : PySem.W.Frag) (x : Str) : Addr := match PySem.W.nsIn K mainGlobals x with
  | some (some (.ref a)) => a
  | _ => 0
def refB (K : PySem.W.Frag) (x : Str) : Bool := match PySem.W.nsIn K mainGlobals x with
  | some (some (.ref _)) => true
  | _ => false
def lenB (K : PySem.W.Frag) (a : Addr) (x : Str) (n : Int) : Bool := match PySem.W.nsIn K a x with
  | some (some (.int m _)) => m == n
  | _ => false
def fnB (K : PySem.W.Frag) (a : Addr) (x y : Str) : Bool := match PySem.W.nsIn K a x, PySem.W.nsIn K mainGlobals y with
  | some (some (.ref a)), some (some (.ref b)) => a == b
  | _, _ => false
theorem refB_ok {K : PySem.W.Frag} {x : Str} (h : refB K x = true) : PySem.W.nsIn K mainGlobals x = some (some (.ref (gad K x))) := by
  unfold refB at h
  unfold gad
  split at h
  · rename_i a e
    rw [e]
  · cases h
theorem lenB_ok {K : PySem.W.Frag} {a : Addr} {x : Str} {n : Int} (h : lenB K a x n = true) : ∃ t, PySem.W.nsIn K a x = some (some (.int n t)) := by
  unfold lenB at h
  split at h
  · rename_i m t e
    rw [e, eq_of_beq h]
    exact ⟨t, rfl⟩
  · cases h
theorem fnB_ok {K : PySem.W.Frag} {a : Addr} {x y : Str} (h : fnB K a x y = true) : ∃ f, PySem.W.nsIn K a x = some (some (.ref f)) ∧ PySem.W.nsIn K mainGlobals y = some (some (.ref f)) := by
  unfold fnB at h
  split at h
  · rename_i a b e1 e2
    rw [e1, e2, eq_of_beq h]
    exact ⟨b, rfl, rfl⟩
  · cases h
theorem chk_of {K : PySem.W.Frag} {h : Heap} {w : World} {mg : Str → Option Value} {word fn : Str} {len : Int} {ks1 ks2 : List Str} (X : K.In h) (G : h.Ns mainGlobals mg) (h1 : refB K "LENGTHS" = true) (h2 : refB K "CHECKS" = true) (h3 : He.dicW K (gad K "LENGTHS") = some (He.keysIn w.params ks1)) (h4 : He.dicW K (gad K "CHECKS") = some (He.keysIn w.params ks2)) (h5 : lenB K (gad K "LENGTHS") word len = true) (h6 : fnB K (gad K "CHECKS") word fn = true) : ChkT K w mg word fn len := by
  obtain ⟨es1, n1, D1⟩ := He.dicW_ok h3
  obtain ⟨es2, n2, D2⟩ := He.dicW_ok h4
  obtain ⟨t, ht⟩ := lenB_ok h5
  obtain ⟨f, hf, hg⟩ := fnB_ok h6
  exact ⟨_, _, es1, es2, n1, n2, t, f, D1, D2, gl_of X G (refB_ok h1), gl_of X G (refB_ok h2), ht, hf, gl_of X G hg⟩
end J
/-! LT0: the call of a law; tables of code objects. -/
namespace J
open PySem PySem.Spec
open PyProof.Rows L2
section
variable {w : World} {P : Program} {K : PySem.W.Frag} {base : Heap} {mg : Str → Option Value} {C : Addr}
def spLawT (K : PySem.W.Frag) : Sp := fun vs H Q _ => ∃ (a : Addr) (ns : List Int), vs = [V.ref a] ∧ SqL K H a (ns.map V.int) ∧ LamX.Tabs (tabsK K) H ∧ ∀ H', Q (.bl true) H'
/-- the facts of a table at P, its code object at c -/
structure TabF (K : PySem.W.Frag) (g : Heap) (cp : Addr × Addr) : Prop where
  emp : g.get? cp.2 = some { cls := .none, data := .fields #[] }
  out : K.lookup cp.2 = none
  code : PySem.W.CodeHd g cp.1 cp.2
/-- the call of the law, from a heap in which the script and the tables are followed -/
theorem callT {mb : Str → Option Value} {k : Nat} {fa a : Addr} {cs : List (Addr × Addr)} {fd : FuncData} {x : Str} {t : Shared} {us : List Value} {ns : List Int} {sp : Sp}
    (inK : K.In t.heap) (gns : t.heap.Ns mainGlobals mg) (bns : t.heap.Ns builtinsNs mb) (bts : ∀ z : Str, z ≠ "__name__" → mb z = bootBuiltins z) (nol : t.heap.NoLimit) (ngen : t.gens = #[]) (tf : ∀ cp ∈ cs, TabF K t.heap cp)
    (bmn : ∃ (bm : Addr) (ob : Obj), mg "__builtins__" = some (.ref bm) ∧ bm ≠ builtinsNs ∧ t.heap.get? bm = some ob ∧ ob.cls = .type "module" ∧ ob.dict = some builtinsNs ∧ ob.data = .plain)
    (scr : t.heap.get? a = some { cls := .type "list", data := .seq us.toArray }) (his : IntsAre us ns) (small : ns.length ≤ sizeLine) (room : Room k callerA)
    (hF : ∀ bs : Heap, K.In bs → bs.Ns mainGlobals mg → (∀ cp ∈ cs, LamX.TabB bs mg cp.1 cp.2) → FnG P w K mg bs k fa fd [x] sp) (bnd : ∀ (t : Shared) (u : Value), BindsTo t fd ⟨[u], []⟩ [(x, u)])
    (hsp : ∀ G : Hp, (∀ cp ∈ cs, G cp.2 = some (.tbl #[])) → SqL K G a (ns.map V.int) → sp [.ref a] G (fun v _ => v = .bl true) fun _ _ _ => False) :
    codeAny (model P w) callerA (.call (.ref fa) ⟨[.ref a], []⟩) (fun r t' => r = .ok (.ret (.bool true)) ∧ OldK t.heap t'.heap ∧ t'.os = t.os ∧ AllBare t'.gens) t := by
  have vals := vals_ints his
  have many := his.length
  have tab0 : ∀ b : Addr, b ∈ cs.map (·.2) → t.heap.get? b = some { cls := .none, data := .fields #[] } := fun b hb => by
    obtain ⟨cp, hcp, rfl⟩ := List.mem_map.mp hb
    exact (tf cp hcp).emp
  have scrT : a ∉ cs.map (·.2) := fun hb => by
    have e1 := tab0 a hb
    rw [scr] at e1
    cases (show Data.seq us.toArray _ = Data.fields #[] from congrArg Obj.data (Option.some.inj e1))
  have inT : ∀ cp ∈ cs, cp.2 ∈ cs.map (·.2) := fun cp hcp => List.mem_map_of_mem hcp
  have main : ∀ G : Hp, (∀ cp ∈ cs, G cp.2 = some (.tbl #[])) → (∀ b, b ∉ cs.map (·.2) → G b = none ∨ ∃ ob ys, G b = some (.frz ob (.lst ys))) → SqL K G a (ns.map V.int) → HOk P w G t.heap → (∀ b, G b ≠ none → b = a ∨ b ∈ cs.map (·.2)) → (G a ≠ none → K.lookup a = none) →
      codeAny (model P w) callerA (.call (.ref fa) ⟨[.ref a], []⟩) (fun r t' => r = .ok (.ret (.bool true)) ∧ OldK t.heap t'.heap ∧ t'.os = t.os ∧ AllBare t'.gens) t := by
    intro G tabs only seq ok here lost
    have nothing : ∀ {b : Addr} {o : Obj}, t.heap.get? b = some o → (∀ ys n, o.data ≠ .seq ys n) → o.data ≠ .fields #[] → G b = none := fun {b o} e1 d1 d2 => by
      cases z : G b with
      | none => rfl
      | some u =>
        rcases here b (by rw [z]; exact Option.some_ne_none u) with ba | ba
        · rw [ba, scr] at e1
          cases e1
          exact absurd rfl (d1 _ _)
        · rw [tab0 b ba] at e1
          cases e1
          exact absurd rfl d2
    have noD : ∀ {b : Addr} {o : Obj} {es : Array DictEntry} {ep : Nat}, t.heap.get? b = some o → o.data = .dict es ep → G b = none := fun {b o es ep} e1 e2 => nothing e1 (fun ys n z => by rw [e2] at z; cases z) (fun z => by rw [e2] at z; cases z)
    have nsB : ∀ {b : Addr} {m : Str → Option Value}, t.heap.Ns b m → (hidT t.heap G).Ns b m := fun {b m} h => by
      obtain ⟨o, es, ep, e1, e2, e3⟩ := h
      exact ⟨o, es, ep, hidT_get e1 (noD e1 e2), e2, e3⟩
    have inB : K.In (hidT t.heap G) := fun b o e1 => hidT_get (inK b o e1) (by
      cases z : G b with
      | none => rfl
      | some u =>
        rcases here b (by rw [z]; exact Option.some_ne_none u) with ba | ba
        · rw [ba, lost (by rw [← ba, z]; exact Option.some_ne_none u)] at e1
          cases e1
        · obtain ⟨cp, hcp, ec⟩ := List.mem_map.mp ba
          rw [← ec, (tf cp hcp).out] at e1
          cases e1)
    have nolB : (hidT t.heap G).NoLimit := by
      obtain ⟨mc, l1, l2⟩ := nol
      exact ⟨mc, nsB l1, l2⟩
    have md : Mod K mg (hidT t.heap G) := ⟨inB, nsB gns, ⟨mb, nsB bns, bts⟩, nolB⟩
    have tb : ∀ cp ∈ cs, LamX.TabB (hidT t.heap G) mg cp.1 cp.2 := fun cp hcp => by
      have F0 := tf cp hcp
      refine ⟨?_, ?_, fun z => ?_⟩
      · obtain ⟨o, ws, file, tf', flags, tg, inF, text, tt, q1, q2, q3, q4, q5, q6, q7, q8, q9, qn⟩ := F0.code
        refine ⟨o, ws, file, tf', flags, tg, inF, text, tt, hidT_get q1 (nothing q1 (fun ys n z => ?_) fun z => ?_), q2, q3, q4, q5, q6, q7, q8, q9, qn⟩
        · rw [q3] at z
          cases z
        · rw [q3] at z
          cases z
          simp at q4
      · obtain ⟨bm, ob, b1, b2, b3, b4, b5, b6⟩ := bmn
        have notG : bm ≠ mainGlobals := fun z => by
          obtain ⟨o, es, ep, e1, e2, _⟩ := gns
          rw [z, e1] at b3
          cases b3
          rw [b6] at e2
          cases e2
        have notP : bm ≠ cp.2 := fun z => by
          rw [z, F0.emp] at b3
          cases b3
          cases b6
        refine ⟨bm, ob, b1, b2, notG, notP, hidT_get b3 (nothing b3 (fun ys n z => ?_) fun z => ?_), b4, b5, b6⟩
        · rw [b6] at z
          cases z
        · rw [b6] at z
          cases z
      · obtain ⟨o, es, ep, e1, e2, _⟩ := gns
        rw [z, F0.emp] at e1
        cases e1
        cases e2
    have en : Env0 P w K mg (hidT t.heap G) callerA [] t G := ⟨rfl, md, fun b o e1 => of_hidT e1, Nat.le_of_eq (hidT_size _ _), trivial, fun b hb => absurd (show b ∈ ([] : List Addr) from hb) List.not_mem_nil, ok, .of_eq ngen⟩
    refine codeAny_mono ((hF _ inB (nsB gns) tb).go callerA [] t G ⟨[.ref a], []⟩ [.ref a] [.ref a] _ _ rfl room en (bnd t (.ref a)) (.cons rfl .nil) (hsp G tabs seq)) fun r t' h => ?_
    match r, h with
    | .ok (.ret u), h =>
      obtain ⟨v, G', e1, e2, un, ok', rel, hv⟩ := h
      have hv' : v = .bl true := hv
      subst hv'
      obtain rfl : u = Value.bool true := rel
      have grown : ∀ cp ∈ cs, ∃ more : Array Value, t'.heap.get? cp.2 = some { cls := .none, data := .fields more } := fun cp hcp => by
        obtain ⟨more, z⟩ := un.tbls cp.2 #[] (tabs cp hcp)
        exact ⟨_, ok' cp.2 _ z⟩
      have rest : ∀ b o, b ∉ cs.map (·.2) → t.heap.get? b = some o → t'.heap.get? b = some o := fun b o nb e3 => by
        cases z : G b with
        | none => exact un.keep b o e3 z (fun y => absurd (show b ∈ ([] : List Addr) from y) List.not_mem_nil) List.not_mem_nil
        | some u =>
          rcases only b nb with y | ⟨ob, xs, y⟩
          · rw [z] at y
            cases y
          · obtain ⟨g1, _⟩ := ok b _ y
            obtain ⟨g2, _⟩ := ok' b _ (un.frzs b ob _ y)
            rw [e3] at g1
            cases g1
            exact g2
      refine ⟨rfl, ⟨fun b o e3 => ?_, fun b o e3 => ?_⟩, e1, e2⟩
      · rcases Decidable.em (b ∈ cs.map (·.2)) with hb | hb
        · obtain ⟨cp, hcp, rfl⟩ := List.mem_map.mp hb
          obtain ⟨more, hm⟩ := grown cp hcp
          have F0 := tf cp hcp
          rw [F0.emp] at e3
          cases e3
          exact .inr (.inl ⟨(F0.code.tab F0.emp).isCodeTable, rfl, #[], more, rfl, by rw [Array.empty_append]; exact hm⟩)
        · exact .inl (rest b o hb e3)
      · rcases Decidable.em (b ∈ cs.map (·.2)) with hb | hb
        · obtain ⟨cp, hcp, rfl⟩ := List.mem_map.mp hb
          exact (grown cp hcp).elim fun more hm => ⟨_, hm⟩
        · exact ⟨o, rest b o hb e3⟩
  cases hk : K.lookup a with
  | some o =>
    have e1 := inK a o hk
    rw [scr] at e1
    cases e1
    have at_t : ∀ b, b ∉ cs.map (·.2) → (if b ∈ cs.map (·.2) then some (HO.tbl #[]) else none) = none := fun b hb => if_neg hb
    refine main (fun b => if b ∈ cs.map (·.2) then some (.tbl #[]) else none) (fun cp hcp => if_pos (inT cp hcp)) (fun b hb => .inl (at_t b hb)) (.inr ⟨_, us.toArray, _, hk, rfl, rfl, rfl, by rw [List.size_toArray, many]; exact small, by simpa using vals⟩) (fun b u z => ?_) (fun b z => ?_) (fun z => absurd (at_t a scrT) z)
    · rcases Decidable.em (b ∈ cs.map (·.2)) with hb | hb
      · cases (if_pos hb).symm.trans z
        exact tab0 b hb
      · cases (if_neg hb).symm.trans z
    · rcases Decidable.em (b ∈ cs.map (·.2)) with hb | hb
      · exact .inr hb
      · exact absurd (at_t b hb) z
  | none =>
    refine main (fun b => if b = a then some (.frz { cls := .type "list", data := .seq us.toArray } (.lst (ns.map V.int))) else if b ∈ cs.map (·.2) then some (.tbl #[]) else none) (fun cp hcp => ?_) (fun b hb => ?_) (.inl (.inr ⟨_, if_pos rfl⟩)) (fun b u z => ?_) (fun b z => ?_) (fun _ => hk)
    · have na : cp.2 ≠ a := fun z => scrT (by rw [← z]; exact inT cp hcp)
      exact (if_neg na).trans (if_pos (inT cp hcp))
    · rcases Decidable.em (b = a) with ha | ha
      · exact Or.inr ⟨_, _, if_pos ha⟩
      · exact Or.inl ((if_neg ha).trans (if_neg hb))
    · rcases Decidable.em (b = a) with ha | ha
      · subst ha
        cases (if_pos rfl).symm.trans z
        exact ⟨scr, by rw [List.length_map]; exact small, us, _, vals, scr⟩
      · have z1 := (if_neg ha).symm.trans z
        rcases Decidable.em (b ∈ cs.map (·.2)) with hb | hb
        · cases (if_pos hb).symm.trans z1
          exact tab0 b hb
        · cases (if_neg hb).symm.trans z1
    · rcases Decidable.em (b = a) with ha | ha
      · exact .inl ha
      · rcases Decidable.em (b ∈ cs.map (·.2)) with hb | hb
        · exact .inr hb
        · exact absurd ((if_neg ha).trans (if_neg hb)) z
/-- the tables of the defs that make lambdas, as the top leaves them -/
def lamTabs (K : PySem.W.Frag) : List (Addr × Addr) := lamDefs.filterMap fun x => lamTab K x
/-- no two of the tables are one -/
def lamOk (K : PySem.W.Frag) : Bool := lamDefs.all fun x => match lamTab K x with
  | some (_, P) => (tabsK K).all (fun p => decide (p.1 = P → p.2 = x ++ ".<locals>." ++ "<lambda>"))
  | none => true
def tabOk (K : PySem.W.Frag) (ts : List Addr) : Bool := (lamTabs K).all fun cp => ts.contains cp.2 && ((K.lookup cp.2).isNone && PySem.W.codeHdIn K cp.1 cp.2)
theorem tabF_of {KK : Params → PySem.W.Frag} {as : List Addr} {e : ∀ P, as = (KK P).map (·.1)} {ts : List Addr} {w : World} {h : Heap} (Y : (PySem.W.kmHook KK as e ts).says w h) (hk : tabOk (KK w.params) ts = true) : (KK w.params).In h ∧ ∀ cp ∈ lamTabs (KK w.params), TabF (KK w.params) h cp := by
  have inK := PySem.W.km_in_of Y
  refine ⟨inK, fun cp hcp => ?_⟩
  have z := List.all_eq_true.mp hk cp hcp
  simp only [Bool.and_eq_true] at z
  obtain ⟨z1, z2, z3⟩ := z
  exact ⟨PySem.W.km_tabs_of Y cp.2 (by simpa using z1), by simpa using z2, PySem.W.codeHd_of_K inK z3⟩
theorem tabs_start {H : Hp} (h : ∀ cp ∈ lamTabs K, H cp.2 = some (.tbl #[])) : LamX.Tabs (tabsK K) H := fun p hp => by
  obtain ⟨x, hx, e⟩ := List.mem_filterMap.mp hp
  cases ht : lamTab K x with
  | none => rw [ht] at e; cases e
  | some cp =>
    rw [ht] at e
    cases e
    exact LamX.TabS.nil (h cp (List.mem_filterMap.mpr ⟨x, hx, ht⟩))
/-- from the head's goal to the law's promise -/
theorem walkT {l : PySem.W.OpenLaw} {n k : Nat} {q : Program} {loose : List Str} {XP : (Str → Option Value) → Heap → Prop} {YP : World → Heap → Prop} {d : DefRec} {KK : Params → PySem.W.Frag} {x : Str}
    (hn : l.most = some n) (hn2 : n ≤ sizeLine) (hdf : d.params.defaults = []) (room : Room k callerA) (hY : ∀ (w : World) (h : Heap), YP w h → (KK w.params).In h ∧ ∀ cp ∈ lamTabs (KK w.params), TabF (KK w.params) h cp) (hO : ∀ w : World, lamOk (KK w.params) = true)
    (F : ∀ (w : World) (mg : Str → Option Value) (fa : Addr) (h : Heap), (KK w.params).In h → h.Ns mainGlobals mg → mg d.name = some (.ref fa) →
      ∃ fd : FuncData, (∀ (t : Shared) (u : Value), BindsTo t fd ⟨[u], []⟩ [(x, u)]) ∧ ∀ bs : Heap, (KK w.params).In bs → bs.Ns mainGlobals mg → (∀ y ∈ lamDefs, (lamTab (KK w.params) y).isSome = true → LamB (KK w.params) mg bs y) → FnG l.prog w (KK w.params) mg bs k fa fd [x] (spLawT (KK w.params))) : PySem.W.WalkO q loose XP YP l.row.toRowW d [] (fun f vs => PySem.call f vs) := by
  refine Att.attach_call hn hdf fun w s0 t mg mb fa o pm cd doc a us ns Gd Y ho hd hcd hm hobj hi hlen hg => ?_
  obtain ⟨inK, tf⟩ := hY w _ Y
  have O := List.all_eq_true.mp (hO w)
  obtain ⟨fd, hb, hF⟩ := F w mg fa _ inK Gd.T.g hm
  refine callT (cs := lamTabs (KK w.params)) inK Gd.T.g Gd.T.b Gd.T.builtins Gd.T.nolimit hg tf Gd.T.bmain hobj hi (Nat.le_trans hlen hn2) room (fun bs i1 i2 tb => hF bs i1 i2 fun y hy hs => ?_) hb fun G tabs seq => ⟨a, ns, rfl, seq, tabs_start tabs, fun _ => rfl⟩
  cases ht : lamTab (KK w.params) y with
  | none => rw [ht] at hs; cases hs
  | some cp =>
    obtain ⟨c, Pt⟩ := cp
    have z := O y hy
    rw [ht] at z
    refine ⟨c, Pt, ht, tb _ (List.mem_filterMap.mpr ⟨y, hy, ht⟩), hy, fun p hp hpe => ?_⟩
    have z3 := List.all_eq_true.mp z p hp
    exact of_decide_eq_true z3 hpe
end
/-- the same for a law without lambdas -/
theorem walkN {l : PySem.W.OpenLaw} {n k : Nat} {q : Program} {loose : List Str} {XP : (Str → Option Value) → Heap → Prop} {YP : World → Heap → Prop} {d : DefRec} {KK : Params → PySem.W.Frag} {x : Str}
    (hn : l.most = some n) (hn2 : n ≤ sizeLine) (hdf : d.params.defaults = []) (room : Room k callerA) (hY : ∀ (w : World) (h : Heap), YP w h → (KK w.params).In h) (hO : ∀ w : World, (lamTabs (KK w.params)).isEmpty = true)
    (F : ∀ (w : World) (mg : Str → Option Value) (fa : Addr) (h : Heap), (KK w.params).In h → h.Ns mainGlobals mg → mg d.name = some (.ref fa) →
      ∃ fd : FuncData, (∀ (t : Shared) (u : Value), BindsTo t fd ⟨[u], []⟩ [(x, u)]) ∧ ∀ bs : Heap, (KK w.params).In bs → bs.Ns mainGlobals mg → FnG l.prog w (KK w.params) mg bs k fa fd [x] (spLawT (KK w.params))) : PySem.W.WalkO q loose XP YP l.row.toRowW d [] (fun f vs => PySem.call f vs) := by
  have hE : ∀ w : World, lamTabs (KK w.params) = [] := fun w => List.isEmpty_iff.mp (hO w)
  refine walkT (x := x) hn hn2 hdf room (fun w h Y => ⟨hY w h Y, fun cp hcp => ?_⟩) (fun w => ?_) fun w mg fa h KX G hm => ?_
  · rw [hE w] at hcp
    cases hcp
  · unfold lamOk
    rw [List.all_eq_true]
    intro x hx
    cases e : lamTab (KK w.params) x with
    | none => rfl
    | some cp =>
      have : cp ∈ lamTabs (KK w.params) := List.mem_filterMap.mpr ⟨x, hx, e⟩
      rw [hE w] at this
      cases this
  · obtain ⟨fd, hb, hF⟩ := F w mg fa h KX G hm
    exact ⟨fd, hb, fun bs i1 i2 _ => hF bs i1 i2⟩
end J
/-! LT: the law over its drawn numbers, and its call; tables of code objects. -/
namespace J
open PySem PySem.Spec
open PyProof.Rows L2
variable [KC]
section
variable {w : World} {P : Program} {K : PySem.W.Frag} {base : Heap} {mg : Str → Option Value} {C : Addr}
theorem seq_dl {H : Hp} {a : Addr} {xs : List V} (h : SqL K H a xs) : SqL K (dl H (Wd.mk [] []).all) a xs := by
  have nin : a ∉ (Wd.mk [] []).all := fun z => by cases z
  rcases h with (h | ⟨o, h⟩) | h
  · exact .inl (.inl (dl_of nin h))
  · exact .inl (.inr ⟨o, dl_of nin h⟩)
  · exact .inr h
theorem mem0 {G : Hp} (ck : CkK K) (t : LamX.Tabs (tabsK K) G) : Mem K G ⟨[], []⟩ [] := ⟨ck, List.nodup_nil, rfl, (fun k a xs h1 => by simp at h1), (fun b hb => by cases hb), (fun b hb => by cases hb), t⟩
theorem len_mx (m : Nat) (h2 : 2 ≤ m) (z : Int) (h0 : 0 ≤ z) : ∃ n : Nat, n ≤ m ∧ (if (if (m : Int) < z then (m : Int) else z) > 2 then (if (m : Int) < z then (m : Int) else z) else 2) = (n : Int) := by
  by_cases h1 : (m : Int) < z
  · rw [if_pos h1]
    by_cases h3 : (m : Int) > 2
    · rw [if_pos h3]
      exact ⟨m, Nat.le_refl _, rfl⟩
    · rw [if_neg h3]
      exact ⟨2, h2, rfl⟩
  · rw [if_neg h1]
    by_cases h2 : z > 2
    · rw [if_pos h2]
      exact ⟨z.toNat, by omega, by omega⟩
    · rw [if_neg h2]
      exact ⟨2, by omega, rfl⟩
theorem len_mx0 (m : Nat) (h2 : 2 ≤ m) (z : Int) (h0 : 0 ≤ z) : ∃ n : Nat, n ≤ m ∧ (if (if (m : Int) < z then (m : Int) else z) > 2 then (if (m : Int) < z then (m : Int) else z) else 2) = (n : Int) := len_mx m h2 z h0
/-- the law's statements, from a script that is followed, to True -/
theorem gLawS (ck : CkK K) {N : List Str} {kr : Nat} (Sc : FnScope N ["_law_cells"] (defScope sLaw)) (h1 : 1 ≤ N.length) {f : Addr} {fd : FuncData} (F : Fun K "law" "law" sLaw f fd)
    (body : ∀ (cdv : Value) (B : Around) (o : List Env) (t : Shared) (G : Hp) (E : XK) (ns : List Int), B.guards = some [] → Room kr (B.deeper (envOfC "law" (defScope sLaw) t.heap.objs.size f cdv)) →
      ST (cxOf CX0 P w K mg base N "law" (defScope sLaw) f cdv B o t G E).nox W0 0 (defBody sLaw) (some (.scr ns) :: List.replicate (N.length - 1) none) [] (PostR (Bb true) [])) : FnG P w K mg base (kr + 1) f fd ["_law_cells"] (spLawT K) := by
  refine funG F Sc (fun xs G R E h => ?_) (fun cdv B o t G xs R E hgd hr h => ?_)
  · obtain ⟨a, ns, rfl, _⟩ := h
    rfl
  · obtain ⟨a, ns, rfl, hs, ht, q⟩ := h
    refine (body cdv B o t G E ns hgd hr) ⟨[], []⟩ _ G _ (Nat.zero_le _) (mem0 ck ht) (sl_start (N := N) (rs := [.scr ns]) (.cons (r := .scr ns) ⟨a, rfl, seq_dl hs⟩ .nil) h1) fun oo ho => ?_
    match oo, ho with
    | .ret r2 μ2, ho =>
      obtain ⟨rfl, rfl⟩ := ho
      intro v H' m' f' hv'
      cases hv'
      exact q H'
theorem scLawC : FnScope ["_law_cells", "_law_turn"] ["_law_cells"] (defScope sLaw) := ⟨rfl, rfl, rfl, by decide +kernel, rfl, by decide +kernel, by decide +kernel⟩
theorem gLawC (T : Bt mg) (ck : CkK K) (C2 : CalF P w K mg base "_law_cup" 1 ["_law_cells", "_law_turn"] cnCup) {kr : Nat} {cnR : ConP} (C3 : CalGP P w K mg base "_law_right" (kr + 1) ["_law_cup_here"] cnR) (hR : ∀ p : GC.Cu, p.ok → ∃ Φ, cnR [.ptr ([] : Sto).length] (([] : Sto) ++ [p.ds]) Φ ∧ ∀ r μ', Φ r μ' → r = Bb true ∧ ∃ ys, μ' = ([] : Sto) ++ [ys]) {f : Addr} {fd : FuncData} (F : Fun K "law" "law" sLaw f fd) : FnG P w K mg base (kr + 3) f fd ["_law_cells"] (spLawT K) := by
  refine funG F scLawC (fun xs G R E h => ?_) (fun cdv B o t G xs R E hgd hr h => ?_)
  · obtain ⟨a, ns, rfl, _⟩ := h
    rfl
  · obtain ⟨a, ns, rfl, hs, ht, q⟩ := h
    have sl : Sl K G ⟨[], []⟩ (L2.start ["_law_cells", "_law_turn"] [.ref a]) [some (.scr ns), none] := sl_start (N := ["_law_cells", "_law_turn"]) (rs := [.scr ns]) (.cons (r := .scr ns) ⟨a, rfl, seq_dl hs⟩ .nil) (Nat.le_of_ble_eq_true rfl)
    refine ⟨_, pss_one (ps_ret p_ex), ?_⟩
    obtain ⟨n, hn4, hn⟩ := len_mx0 5 (by decide) (ns.length : Int) (by omega)
    refine use_ev (μ := []) (ρ := [some (.scr ns), none]) (r := Bb (((List.range n).map fun _ => true).all id)) (bAll (bs := (List.range n).map fun _ => true) T rfl (EV.eq (LCV.evf (own := [("_law_turn", 1)]) (LCV.mapT (bs := List.range n) (fun (i : Nat) => PyData.int (0 + (i : Int))) (fun _ => .bool true) (IV.eqD (IV.rng1 (EV.eq (EV.callB (call_max2 rfl) T.max (by decide +kernel) (AV.cons EV.int (AV.cons (EV.callB (call_min2 rfl) T.min (by decide +kernel) (AV.cons (bLenScr T (nm 0)) (AV.cons EV.int AV.nil)) cv_min) AV.nil)) cv_max) (congrArg Ii hn)) (by omega) (by omega) T.range) (by rw [Int.toNat_natCast]; rfl)) (fun i hi => ?_) (by simp; omega)) rfl scLawC.nd (blkOk_by (N := ["_law_cells", "_law_turn"]) (sc := defScope sLaw) (by decide +kernel))).ev (congrArg Ls (by rw [List.map_map]; rfl)))) (mem0 ck ht) sl fun v H1 m1 f1 h1 => ?_
    · have hil : i < n := List.mem_range.mp hi
      refine ⟨_, fun _ _ _ _ _ => GV.name (i := 1) scLawC.nd rfl (Or.inl rfl) (by simp), fun _ _ _ _ _ => ?_⟩
      obtain ⟨Φ, h1, h2⟩ := hR _ (cup_ok ns i)
      exact EV.callNewP C3 hgd (hr.mono (by omega)) (EVF.call C2 (hr.mono (by omega)) (AV.cons (nm 0) (AV.cons (nm 1) AV.nil)) ⟨ns, i, by rw [Int.zero_add], by omega, rfl⟩) h1 h2
    · have e : ((List.range n).map fun _ => true).all id = true := by
        rw [List.all_map, List.all_eq_true]
        exact fun _ _ => rfl
      rw [e] at h1
      cases h1
      exact q H1
end
end J
/-! E: the facts that the top has written, one by one; the law's promise. -/
namespace J
open PySem PySem.Spec
open PyProof.Rows L2
variable [KC]
theorem end_of {P : Program} {w : World} {K : PySem.W.Frag} {h : Heap} {mg : Str → Option Value} {fa C : Addr}
    (X : K.In h) (G : h.Ns mainGlobals mg) (hfa : mg "law" = some (.ref fa)) (aC : PySem.W.nsIn K mainGlobals "Book" = some (some (.ref C)))
    {N0 : Addr} (gN : mg "NOUGHT" = some (.ref N0)) (hK : KC.at_ N0 = some [0, 0]) (ck : CkK K)
    (pg : PySem.W.plainGet K C Str.empty = true)
    (hd : PySem.W.hasDictIn K C = true)
    (po : PySem.W.plainOver K C = true)
    (sa : PySem.W.findIn K (.ref C) "__setattr__" = some (some (.builtin "object.__setattr__")))
    (nK : PySem.W.findIn K (.ref C) "kept" = some none)
    (mk : PySem.W.makesIn K C = true)
    (kc : PySem.W.keepIn K (.ref C) = true)
    (iha : PySem.W.findIn K (.ref C) "__class__" = some (some (.builtin "object.__class__")))
    (ihn : PySem.W.specialIn K (.builtin "object.__class__") "__get__" = some (some (.builtin "getset_descriptor.__get__")))
    (iht : PySem.W.takesIn K (.builtin "object.__class__") = some true)
    (ihm : PySem.W.mroIn K C (.type "object") = some true)
    (q1 : refB K "LENGTHS" = true)
    (q2 : refB K "CHECKS" = true)
    (q3 : He.dicW K (gad K "LENGTHS") = some (He.keysIn w.params ["holds", "wrong", "hazard", "differs"]))
    (q4 : He.dicW K (gad K "CHECKS") = some (He.keysIn w.params ["holds", "wrong", "hazard", "differs"]))
    (q5 : lenB K (gad K "LENGTHS") "hazard" 5 = true)
    (q6 : fnB K (gad K "CHECKS") "hazard" "accepts_hazard" = true)
    (T : Bt mg)
    (longest : ∃ t, mg "LONGEST_NAME" = some (.int 8 t))
    (letters : ∃ t, mg "LETTERS" = some (.str M.letters t))
    (digits : ∃ t, mg "DIGITS" = some (.str M.digits t))
    (mlast : ∃ t, mg "MOST_LAST" = some (.int 4 t))
    (mfar : ∃ t, mg "MOST_FAR" = some (.int 4 t))
    (mclasses : ∃ t, mg "MOST_CLASSES" = some (.int 3 t))
    (mclauses : ∃ t, mg "MOST_CLAUSES" = some (.int 3 t))
    (mrounds : ∃ t, mg "MOST_ROUNDS" = some (.int 5 t))
    (mplans : ∃ t, mg "MOST_PLANS" = some (.int 4 t))
    (mbase : ∃ t, mg "MOST_BASE" = some (.int 4 t))
    (mlevel : ∃ t, mg "MOST_LEVEL" = some (.int 100 t))
    (d_is_integer : Df K mg "is_integer" sIsInteger)
    (d_is_count : Df K mg "is_count" sIsCount)
    (d_is_index : Df K mg "is_index" sIsIndex)
    (d_is_name : Df K mg "is_name" sIsName)
    (d_is_goal : Df K mg "is_goal" sIsGoal)
    (d_read_digit : Df K mg "read_digit" sReadDigit)
    (d_read_class : Df K mg "read_class" sReadClass)
    (d_read_way : Df K mg "read_way" sReadWay)
    (d_put_clause : Df K mg "put_clause" sPutClause)
    (d_read_clause : Df K mg "read_clause" sReadClause)
    (d_share_place : Df K mg "share_place" sSharePlace)
    (d_fit_together : Df K mg "fit_together" sFitTogether)
    (d_read_round : Df K mg "read_round" sReadRound)
    (d_can_stand : Df K mg "can_stand" sCanStand)
    (d_are_rounds : Df K mg "are_rounds" sAreRounds)
    (d_is_plan : Df K mg "is_plan" sIsPlan)
    (d_check_plans : Df K mg "check_plans" sCheckPlans)
    (d_plan_text : Df K mg "plan_text" sPlanText)
    (d_read_plan : Df K mg "read_plan" sReadPlan)
    (d_read_plans : Df K mg "read_plans" sReadPlans)
    (d_is_place : Df K mg "is_place" sIsPlace)
    (d_done_places : Df K mg "done_places" sDonePlaces)
    (d_read_places : Df K mg "read_places" sReadPlaces)
    (d_hazard_places : Df K mg "hazard_places" sHazardPlaces)
    (d_accepts_hazard : Df K mg "accepts_hazard" sAcceptsHazard)
    (d_accepts : Df K mg "accepts" sAccepts)
    (d_law_cup : Df K mg "_law_cup" sLCup)
    (d_law_sip : Df K mg "_law_sip" sLSip)
    (d_law_labels : Df K mg "_law_labels" sLLabels)
    (d_law_clause : Df K mg "_law_clause" sLClause)
    (d_law_round : Df K mg "_law_round" sLRound)
    (d_law_goal : Df K mg "_law_goal" sLGoal)
    (d_law_plan : Df K mg "_law_plan" sLPlan)
    (d_law_good : Df K mg "_law_good" sLGood)
    (d_law_sketch : Df K mg "_law_sketch" sLSketch)
    (d_law_clause_text : Df K mg "_law_clause_text" sLClauseText)
    (d_law_goal_text : Df K mg "_law_goal_text" sLGoalText)
    (d_law_parts : Df K mg "_law_parts" sLParts)
    (d_law_vol : Df K mg "_law_vol" sLVol)
    (d_law_is_hazard : Df K mg "_law_is_hazard" sLIsHazard)
    (d_law_right : Df K mg "_law_right" sLRight)
    (d_law : Df K mg "law" sLaw)
    (m_init : MFun K C "__init__" "Book.__init__" sInit)
    (m_find_plan : MFun K C "find_plan" "Book.find_plan" sFindPlan)
    (m_plan : MFun K C "plan" "Book.plan" sPlan)
    (m_str : MFun K C "__str__" "Book.__str__" sStr)
    (m_names : PFun K C "names" "Book.names" sNames)
    (m_read : CFun K C "read" "Book.read" sRead)
    : ∃ fd : FuncData, (∀ (t : Shared) (u : Value), BindsTo t fd ⟨[u], []⟩ [("_law_cells", u)]) ∧ ∀ bs : Heap, K.In bs → bs.Ns mainGlobals mg → FnG P w K mg bs 14 fa fd ["_law_cells"] (spLawT K) := by
  obtain ⟨f, fd, F, hm⟩ := d_law.ex
  have e := hfa.symm.trans hm
  cases e
  refine ⟨fd, ?_, fun bs inB nsB => ?_⟩
  · obtain ⟨oc, od, kV, doc, pm, an, cdv, ct, osl, rfl, lk, hcd⟩ := F.ex
    exact fun t u => .of_eq rfl
  · have U : Gf mg := ⟨T, longest, letters, digits, mlast, mfar, mclasses, mclauses, mrounds, mplans, mbase⟩
    have at_ : mg "Book" = some (.ref C) := gl_of X G aC
    have k : Kl K C := ⟨⟨pg, hd, po, sa⟩, nK⟩
    have ic : C8.InsC K C := ⟨⟨pg, hd, po, sa⟩, iha, ihn, iht, ihm, if_pos (beq_self_eq_true _)⟩
    have a_is_integer := cIsInteger (P := P) (w := w) (base := bs) U d_is_integer
    have a_is_count := cIcA a_is_integer d_is_count
    have a_is_index := cIsIndex U a_is_integer d_is_index
    have a_is_name := cIsName (P := P) (w := w) (base := bs) U d_is_name
    have a_is_goal := cIsGoal (P := P) (w := w) (base := bs) U d_is_goal
    have a_read_digit := cReadDigit (P := P) (w := w) (base := bs) U d_read_digit
    have a_read_class := cReadClass U a_read_digit d_read_class
    have a_read_way := cReadWay U a_read_digit d_read_way
    have a_put_clause := cPutClause (P := P) (w := w) (base := bs) d_put_clause
    have a_read_clause := cReadClause U a_read_class a_read_way a_put_clause a_is_name d_read_clause
    have a_share_place := cSharePlace (P := P) (w := w) (base := bs) U d_share_place
    have a_fit_together := cFit U a_share_place d_fit_together
    have a_read_round := cReadRound U a_read_clause a_fit_together d_read_round
    have a_can_stand := cCanStand a_read_round d_can_stand
    have a_are_rounds := cAreRounds U a_read_round d_are_rounds
    have a_is_plan := cIsPlan U a_is_integer a_is_name a_is_goal a_are_rounds d_is_plan
    have a_check_plans := cCheckPlans U a_is_plan a_can_stand d_check_plans
    have a_plan_text := cPlanText (P := P) (w := w) (base := bs) d_plan_text
    have a_read_plan := cReadPlan U a_read_digit d_read_plan
    have a_read_plans := cReadPlans U a_read_plan d_read_plans
    have a_is_place := cIsPl (P := P) (w := w) (base := bs) d_is_place
    have a_done_places := cDon T a_is_place d_done_places
    have a_read_places := cRea T a_is_place d_read_places
    have a_hazard_places := cHz T a_done_places a_read_places d_hazard_places
    have a_law_cup := cCup (P := P) (w := w) (base := bs) T d_law_cup
    have a_law_sip := cSip (P := P) (w := w) (base := bs) T d_law_sip
    have a_law_labels := cLab T a_law_sip d_law_labels
    have a_law_clause := cCla T a_law_sip d_law_clause
    have a_law_round := cRnd T a_law_sip a_law_clause d_law_round
    have a_law_goal := cGoa T a_law_sip d_law_goal
    have a_law_plan := cPla T a_law_sip a_law_round a_law_goal d_law_plan
    have a_law_good := cGod T a_law_sip d_law_good
    have a_law_sketch := cSke T a_law_sip a_law_labels a_law_good a_law_plan d_law_sketch
    have a_law_clause_text := cCT (P := P) (w := w) (base := bs) T d_law_clause_text
    have a_law_goal_text := cGT (P := P) (w := w) (base := bs) T d_law_goal_text
    have a_law_parts := cPt T a_law_clause_text a_law_goal_text d_law_parts
    have a_law_is_hazard := cIh (P := P) (w := w) (base := bs) T d_law_is_hazard
    obtain ⟨mc, p1, f1, g1, rd1, cm1, F1⟩ := m_read.ex
    obtain ⟨f0, g0, F0, b0, i0⟩ := m_init.ex
    obtain ⟨p3, f3, g3, F3, o3⟩ := m_names.ex
    obtain ⟨f4, g4, F4, b4, i4⟩ := m_find_plan.ex
    obtain ⟨f5, g5, F5, b5, i5⟩ := m_plan.ex
    obtain ⟨f8, g8, F8, b8, i8⟩ := m_str.ex
    have n0 : Mak P w K mg bs "Book" C "kept" 8 ["self", "plans"] M.Good := ⟨f0, g0, okInit (P := P) (w := w) (base := bs) F0 k a_check_plans, ⟨mk, b0, i0, kc⟩, at_, F0.binds fun _ _ _ _ _ _ us hl => match us, hl with | [_, _], _ => rfl⟩
    have n3 : Prp P w K mg bs C "names" 1 (cnNames C) := ⟨p3, f3, g3, okNames T F3 k, o3, F3.binds fun _ _ _ _ _ _ us hl => match us, hl with | [_], _ => rfl⟩
    have n3' : NmF P w K mg bs C := ⟨p3, f3, g3, okNamesF T F3 k, o3, F3.binds fun _ _ _ _ _ _ us hl => match us, hl with | [_], _ => rfl⟩
    have n4 : Mth P w K mg bs C "find_plan" 3 ["self", "name"] (cnFindPlan C) := ⟨f4, g4, okFindPlan T F4 k n3 n3', ⟨b4, i4, F4.kp⟩, F4.binds fun _ _ _ _ _ _ us hl => match us, hl with | [_, _], _ => rfl⟩
    have n5 : Mth P w K mg bs C "plan" 4 ["self", "name"] (cnPlan C) := ⟨f5, g5, okPlan F5 k n4, ⟨b5, i5, F5.kp⟩, F5.binds fun _ _ _ _ _ _ us hl => match us, hl with | [_, _], _ => rfl⟩
    have a_vol := cVol T n0 a_law_parts d_law_vol
    have n8 : Own P w K mg bs C "__str__" 2 (cnStr C) := ⟨f8, g8, okStr F8 k a_plan_text, b8, i8, F8.binds fun _ _ _ _ _ _ us hl => match us, hl with | [_], _ => rfl⟩
    have R : CMth P w K mg bs C "read" 10 (cnRead C) := ⟨mc, p1, f1, g1, rd1, cm1, okRead T F1 n0 a_read_plans, F1.binds fun _ _ _ _ _ _ us hl => match us, hl with | [_, _], _ => rfl, kbn F1 fun _ _ _ _ _ _ us ws hl hk => match us, ws, hl, hk with | [_], [_], _, _ => rfl⟩
    have a_ah := cAh T mlevel k n5 a_is_count a_is_index a_read_round a_hazard_places d_accepts_hazard
    have a_ac := cAcH T R at_ (chk_of X G q1 q2 q3 q4 q5 q6) a_ah d_accepts
    exact gLawC (kr := 11) T ck a_law_cup (cRt T a_law_sip a_law_sketch a_vol n8 a_law_is_hazard a_ac d_law_right) (fun p hp => ⟨_, ⟨0, p, rfl, ⟨rfl, hp⟩, rfl⟩, fun r μ' h => ⟨h.1, h.2.elim fun q hq => ⟨q, hq⟩⟩⟩) F
end J
open PySem PySem.Spec
open PyProof.Rows L2 J
theorem J.end_of0 {P : Program} {w : World} {K : PySem.W.Frag} {h : Heap} {mg : Str → Option Value} {fa C : Addr}
    {N0 : Addr} {od : Option Addr} {t1 t2 : Tok} {nn : Nat} {sl : Array (Option Value)} (X : K.In h) (G : h.Ns mainGlobals mg) (hfa : mg "law" = some (.ref fa)) (aC : PySem.W.nsIn K mainGlobals "Book" = some (some (.ref C)))
    (aN : PySem.W.nsIn K mainGlobals "NOUGHT" = some (some (.ref N0))) (oN : K.lookup N0 = some ⟨.type "tuple", od, .seq #[.int 0 t1, .int 0 t2] nn, sl⟩)
    (pg : PySem.W.plainGet K C Str.empty = true)
    (hd : PySem.W.hasDictIn K C = true)
    (po : PySem.W.plainOver K C = true)
    (sa : PySem.W.findIn K (.ref C) "__setattr__" = some (some (.builtin "object.__setattr__")))
    (nK : PySem.W.findIn K (.ref C) "kept" = some none)
    (mk : PySem.W.makesIn K C = true)
    (kc : PySem.W.keepIn K (.ref C) = true)
    (iha : PySem.W.findIn K (.ref C) "__class__" = some (some (.builtin "object.__class__")))
    (ihn : PySem.W.specialIn K (.builtin "object.__class__") "__get__" = some (some (.builtin "getset_descriptor.__get__")))
    (iht : PySem.W.takesIn K (.builtin "object.__class__") = some true)
    (ihm : PySem.W.mroIn K C (.type "object") = some true)
    (q1 : refB K "LENGTHS" = true)
    (q2 : refB K "CHECKS" = true)
    (q3 : He.dicW K (gad K "LENGTHS") = some (He.keysIn w.params ["holds", "wrong", "hazard", "differs"]))
    (q4 : He.dicW K (gad K "CHECKS") = some (He.keysIn w.params ["holds", "wrong", "hazard", "differs"]))
    (q5 : lenB K (gad K "LENGTHS") "hazard" 5 = true)
    (q6 : fnB K (gad K "CHECKS") "hazard" "accepts_hazard" = true)
    (T : Bt mg)
    (longest : ∃ t, mg "LONGEST_NAME" = some (.int 8 t))
    (letters : ∃ t, mg "LETTERS" = some (.str M.letters t))
    (digits : ∃ t, mg "DIGITS" = some (.str M.digits t))
    (mlast : ∃ t, mg "MOST_LAST" = some (.int 4 t))
    (mfar : ∃ t, mg "MOST_FAR" = some (.int 4 t))
    (mclasses : ∃ t, mg "MOST_CLASSES" = some (.int 3 t))
    (mclauses : ∃ t, mg "MOST_CLAUSES" = some (.int 3 t))
    (mrounds : ∃ t, mg "MOST_ROUNDS" = some (.int 5 t))
    (mplans : ∃ t, mg "MOST_PLANS" = some (.int 4 t))
    (mbase : ∃ t, mg "MOST_BASE" = some (.int 4 t))
    (mlevel : ∃ t, mg "MOST_LEVEL" = some (.int 100 t))
    (d_is_integer : Df K mg "is_integer" sIsInteger)
    (d_is_count : Df K mg "is_count" sIsCount)
    (d_is_index : Df K mg "is_index" sIsIndex)
    (d_is_name : Df K mg "is_name" sIsName)
    (d_is_goal : Df K mg "is_goal" sIsGoal)
    (d_read_digit : Df K mg "read_digit" sReadDigit)
    (d_read_class : Df K mg "read_class" sReadClass)
    (d_read_way : Df K mg "read_way" sReadWay)
    (d_put_clause : Df K mg "put_clause" sPutClause)
    (d_read_clause : Df K mg "read_clause" sReadClause)
    (d_share_place : Df K mg "share_place" sSharePlace)
    (d_fit_together : Df K mg "fit_together" sFitTogether)
    (d_read_round : Df K mg "read_round" sReadRound)
    (d_can_stand : Df K mg "can_stand" sCanStand)
    (d_are_rounds : Df K mg "are_rounds" sAreRounds)
    (d_is_plan : Df K mg "is_plan" sIsPlan)
    (d_check_plans : Df K mg "check_plans" sCheckPlans)
    (d_plan_text : Df K mg "plan_text" sPlanText)
    (d_read_plan : Df K mg "read_plan" sReadPlan)
    (d_read_plans : Df K mg "read_plans" sReadPlans)
    (d_is_place : Df K mg "is_place" sIsPlace)
    (d_done_places : Df K mg "done_places" sDonePlaces)
    (d_read_places : Df K mg "read_places" sReadPlaces)
    (d_hazard_places : Df K mg "hazard_places" sHazardPlaces)
    (d_accepts_hazard : Df K mg "accepts_hazard" sAcceptsHazard)
    (d_accepts : Df K mg "accepts" sAccepts)
    (d_law_cup : Df K mg "_law_cup" sLCup)
    (d_law_sip : Df K mg "_law_sip" sLSip)
    (d_law_labels : Df K mg "_law_labels" sLLabels)
    (d_law_clause : Df K mg "_law_clause" sLClause)
    (d_law_round : Df K mg "_law_round" sLRound)
    (d_law_goal : Df K mg "_law_goal" sLGoal)
    (d_law_plan : Df K mg "_law_plan" sLPlan)
    (d_law_good : Df K mg "_law_good" sLGood)
    (d_law_sketch : Df K mg "_law_sketch" sLSketch)
    (d_law_clause_text : Df K mg "_law_clause_text" sLClauseText)
    (d_law_goal_text : Df K mg "_law_goal_text" sLGoalText)
    (d_law_parts : Df K mg "_law_parts" sLParts)
    (d_law_vol : Df K mg "_law_vol" sLVol)
    (d_law_is_hazard : Df K mg "_law_is_hazard" sLIsHazard)
    (d_law_right : Df K mg "_law_right" sLRight)
    (d_law : Df K mg "law" sLaw)
    (m_init : MFun K C "__init__" "Book.__init__" sInit)
    (m_find_plan : MFun K C "find_plan" "Book.find_plan" sFindPlan)
    (m_plan : MFun K C "plan" "Book.plan" sPlan)
    (m_str : MFun K C "__str__" "Book.__str__" sStr)
    (m_names : PFun K C "names" "Book.names" sNames)
    (m_read : CFun K C "read" "Book.read" sRead)
    : ∃ fd : FuncData, (∀ (t : Shared) (u : Value), BindsTo t fd ⟨[u], []⟩ [("_law_cells", u)]) ∧ ∀ bs : Heap, K.In bs → bs.Ns mainGlobals mg → FnG P w K mg bs 14 fa fd ["_law_cells"] (spLawT K) := by
  letI : J.KC := ⟨fun a => if a = N0 then some [0, 0] else none⟩
  exact J.end_of X G hfa aC (gl_of X G aN) (if_pos rfl) (ck_one (fun _ => rfl) oN) pg hd po sa nK mk kc iha ihn iht ihm q1 q2 q3 q4 q5 q6 T longest letters digits mlast mfar mclasses mclauses mrounds mplans mbase mlevel d_is_integer d_is_count d_is_index d_is_name d_is_goal d_read_digit d_read_class d_read_way d_put_clause d_read_clause d_share_place d_fit_together d_read_round d_can_stand d_are_rounds d_is_plan d_check_plans d_plan_text d_read_plan d_read_plans d_is_place d_done_places d_read_places d_hazard_places d_accepts_hazard d_accepts d_law_cup d_law_sip d_law_labels d_law_clause d_law_round d_law_goal d_law_plan d_law_good d_law_sketch d_law_clause_text d_law_goal_text d_law_parts d_law_vol d_law_is_hazard d_law_right d_law m_init m_find_plan m_plan m_str m_names m_read
section
open PySem PySem.W PyProof.Rows
def PySem.W.Fast.tw1875067876289090615 : Nat := 0
def PySem.W.Fast.tw6332326510096782760 : Nat := 0
def PySem.W.Fast.tw6449128278215917044 : Nat := 0
def PySem.W.Fast.tw1348686238360321804 : Nat := 0
def PySem.W.Fast.tw4934116040678700208 : Nat := 0
def PySem.W.Fast.tw17437978225849329918 : Nat := 0
def PySem.W.Fast.tw15234264132796209951 : Nat := 0
def PySem.W.Fast.tw6164711210335018796 : Nat := 0
def PySem.W.Fast.tw17642196800702610994 : Nat := 0
def PySem.W.Fast.tw14019881755177166336 : Nat := 0
def PySem.W.Fast.tw6495368838606455238 : Nat := 0
def PySem.W.Fast.tw971717645962512615 : Nat := 0
def PySem.W.Fast.tw1310944521214732992 : Nat := 0
def PySem.W.Fast.tw3436668677267843481 : Nat := 0
def PySem.W.Fast.tw4563574211093696666 : Nat := 0
def PySem.W.Fast.tw16153686074110841394 : Nat := 0
def PySem.W.Fast.tw12652432740844512721 : Nat := 0
def PySem.W.Fast.tw4891155283279915023 : Nat := 0
def PySem.W.Fast.tw11589342450005873132 : Nat := 0
def PySem.W.Fast.tw13485263441057248554 : Nat := 0
def PySem.W.Fast.tw18438055454900119596 : Nat := 0
open_top hd for PySem.Challenge.rw_joinrounds_k63_hazards_judged
end
open PySem PySem.W PyProof.Rows
set_option maxRecDepth 100000 in
set_option maxHeartbeats 0 in
theorem PySem.Challenge.cw_joinrounds_k63_hazards_judged_holds : PySem.Challenge.rw_joinrounds_k63_hazards_judged.Holds :=
  hd (by
  k_fill
  refine J.walkN (l := PySem.Challenge.rw_joinrounds_k63_hazards_judged) (n := 63) (k := 14) (x := "_law_cells") rfl (by decide) rfl ⟨rfl, by decide, by decide⟩ (fun w h Y => PySem.W.kIn_of Y) ?O ?F
  case O =>
    intro w
    kernel_rfl
  case F =>
    intro w mg fa h KX G hmg
    letI : J.KC := ⟨fun _ => none⟩
    refine' J.end_of0 KX G hmg ?aC ?aN ?oN ?pg ?hd ?po ?sa ?nK ?mk ?kc ?iha ?ihn ?iht ?ihm ?q1 ?q2 ?q3 ?q4 ?q5 ?q6 ⟨J.no_of KX G ?b0, J.no_of KX G ?b1, J.no_of KX G ?b2, J.no_of KX G ?b3, J.no_of KX G ?b4, J.no_of KX G ?b5, J.no_of KX G ?b6, J.no_of KX G ?b7, J.no_of KX G ?b8, J.no_of KX G ?b9, J.no_of KX G ?b10, J.no_of KX G ?b11, J.no_of KX G ?b12, J.no_of KX G ?b13, J.no_of KX G ?b14, J.no_of KX G ?b15⟩ (J.gx_of KX G ?g0) (J.gx_of KX G ?g1) (J.gx_of KX G ?g2) (J.gx_of KX G ?g3) (J.gx_of KX G ?g4) (J.gx_of KX G ?g5) (J.gx_of KX G ?g6) (J.gx_of KX G ?g7) (J.gx_of KX G ?g8) (J.gx_of KX G ?g9) (J.gx_of KX G ?g10) (J.df_mk KX G ?a0 ?l0 ?c0 ?k0) (J.df_mk KX G ?a1 ?l1 ?c1 ?k1) (J.df_mk KX G ?a2 ?l2 ?c2 ?k2) (J.df_mk KX G ?a3 ?l3 ?c3 ?k3) (J.df_mk KX G ?a4 ?l4 ?c4 ?k4) (J.df_mk KX G ?a5 ?l5 ?c5 ?k5) (J.df_mk KX G ?a6 ?l6 ?c6 ?k6) (J.df_mk KX G ?a7 ?l7 ?c7 ?k7) (J.df_mk KX G ?a8 ?l8 ?c8 ?k8) (J.df_mk KX G ?a9 ?l9 ?c9 ?k9) (J.df_mk KX G ?a10 ?l10 ?c10 ?k10) (J.df_mk KX G ?a11 ?l11 ?c11 ?k11) (J.df_mk KX G ?a12 ?l12 ?c12 ?k12) (J.df_mk KX G ?a13 ?l13 ?c13 ?k13) (J.df_mk KX G ?a14 ?l14 ?c14 ?k14) (J.df_mk KX G ?a15 ?l15 ?c15 ?k15) (J.df_mk KX G ?a16 ?l16 ?c16 ?k16) (J.df_mk KX G ?a17 ?l17 ?c17 ?k17) (J.df_mk KX G ?a18 ?l18 ?c18 ?k18) (J.df_mk KX G ?a19 ?l19 ?c19 ?k19) (J.df_mk KX G ?a20 ?l20 ?c20 ?k20) (J.df_mk KX G ?a21 ?l21 ?c21 ?k21) (J.df_mk KX G ?a22 ?l22 ?c22 ?k22) (J.df_mk KX G ?a23 ?l23 ?c23 ?k23) (J.df_mk KX G ?a24 ?l24 ?c24 ?k24) (J.df_mk KX G ?a25 ?l25 ?c25 ?k25) (J.df_mk KX G ?a26 ?l26 ?c26 ?k26) (J.df_mk KX G ?a27 ?l27 ?c27 ?k27) (J.df_mk KX G ?a28 ?l28 ?c28 ?k28) (J.df_mk KX G ?a29 ?l29 ?c29 ?k29) (J.df_mk KX G ?a30 ?l30 ?c30 ?k30) (J.df_mk KX G ?a31 ?l31 ?c31 ?k31) (J.df_mk KX G ?a32 ?l32 ?c32 ?k32) (J.df_mk KX G ?a33 ?l33 ?c33 ?k33) (J.df_mk KX G ?a34 ?l34 ?c34 ?k34) (J.df_mk KX G ?a35 ?l35 ?c35 ?k35) (J.df_mk KX G ?a36 ?l36 ?c36 ?k36) (J.df_mk KX G ?a37 ?l37 ?c37 ?k37) (J.df_mk KX G ?a38 ?l38 ?c38 ?k38) (J.df_mk KX G ?a39 ?l39 ?c39 ?k39) (J.df_mk KX G ?a40 ?l40 ?c40 ?k40) (J.df_mk KX G ?a41 ?l41 ?c41 ?k41) (J.mf_mk ?a42 ?i42 ?l42 ?c42 ?k42) (J.mf_mk ?a43 ?i43 ?l43 ?c43 ?k43) (J.mf_mk ?a44 ?i44 ?l44 ?c44 ?k44) (J.mf_mk ?a45 ?i45 ?l45 ?c45 ?k45) (J.pf_mk ?a46 ?pg46 ?t46 ?r46 ?l46 ?c46 ?k46) (J.cf_mk (mc := .type "type") ?rd47 ?ga47 ?a47 ?r47 ?fi47 ?l47 ?c47 ?k47)
    (case aC => k_is); (case aN => k_is); (case oN => k_is); (case pg => k_is); (case hd => k_is); (case po => k_is)
    (case sa => k_is); (case nK => k_is); (case mk => k_is); (case kc => k_is); (case iha => k_is); (case ihn => k_is)
    (case iht => k_is); (case ihm => k_is); (case b0 => k_is); (case b1 => k_is); (case b2 => k_is); (case b3 => k_is)
    (case b4 => k_is); (case b5 => k_is); (case b6 => k_is); (case b7 => k_is); (case b8 => k_is); (case b9 => k_is)
    (case b10 => k_is); (case b11 => k_is); (case b12 => k_is); (case b13 => k_is); (case b14 => k_is); (case b15 => k_is)
    (case g0 => k_is); (case g1 => k_is); (case g2 => k_is); (case g3 => k_is); (case g4 => k_is); (case g5 => k_is)
    (case g6 => k_is); (case g7 => k_is); (case g8 => k_is); (case g9 => k_is); (case g10 => k_is); (case a0 => k_is)
    (case l0 => k_is); (case c0 => k_is); (case k0 => k_is); (case a1 => k_is); (case l1 => k_is); (case c1 => k_is)
    (case k1 => k_is); (case a2 => k_is); (case l2 => k_is); (case c2 => k_is); (case k2 => k_is); (case a3 => k_is)
    (case l3 => k_is); (case c3 => k_is); (case k3 => k_is); (case a4 => k_is); (case l4 => k_is); (case c4 => k_is)
    (case k4 => k_is); (case a5 => k_is); (case l5 => k_is); (case c5 => k_is); (case k5 => k_is); (case a6 => k_is)
    (case l6 => k_is); (case c6 => k_is); (case k6 => k_is); (case a7 => k_is); (case l7 => k_is); (case c7 => k_is)
    (case k7 => k_is); (case a8 => k_is); (case l8 => k_is); (case c8 => k_is); (case k8 => k_is); (case a9 => k_is)
    (case l9 => k_is); (case c9 => k_is); (case k9 => k_is); (case a10 => k_is); (case l10 => k_is); (case c10 => k_is)
    (case k10 => k_is); (case a11 => k_is); (case l11 => k_is); (case c11 => k_is); (case k11 => k_is); (case a12 => k_is)
    (case l12 => k_is); (case c12 => k_is); (case k12 => k_is); (case a13 => k_is); (case l13 => k_is); (case c13 => k_is)
    (case k13 => k_is); (case a14 => k_is); (case l14 => k_is); (case c14 => k_is); (case k14 => k_is); (case a15 => k_is)
    (case l15 => k_is); (case c15 => k_is); (case k15 => k_is); (case a16 => k_is); (case l16 => k_is); (case c16 => k_is)
    (case k16 => k_is); (case a17 => k_is); (case l17 => k_is); (case c17 => k_is); (case k17 => k_is); (case a18 => k_is)
    (case l18 => k_is); (case c18 => k_is); (case k18 => k_is); (case a19 => k_is); (case l19 => k_is); (case c19 => k_is)
    (case k19 => k_is); (case a20 => k_is); (case l20 => k_is); (case c20 => k_is); (case k20 => k_is); (case a21 => k_is)
    (case l21 => k_is); (case c21 => k_is); (case k21 => k_is); (case a22 => k_is); (case l22 => k_is); (case c22 => k_is)
    (case k22 => k_is); (case a23 => k_is); (case l23 => k_is); (case c23 => k_is); (case k23 => k_is); (case a24 => k_is)
    (case l24 => k_is); (case c24 => k_is); (case k24 => k_is); (case a25 => k_is); (case l25 => k_is); (case c25 => k_is)
    (case k25 => k_is); (case a26 => k_is); (case l26 => k_is); (case c26 => k_is); (case k26 => k_is); (case a27 => k_is)
    (case l27 => k_is); (case c27 => k_is); (case k27 => k_is); (case a28 => k_is); (case l28 => k_is); (case c28 => k_is)
    (case k28 => k_is); (case a29 => k_is); (case l29 => k_is); (case c29 => k_is); (case k29 => k_is); (case a30 => k_is)
    (case l30 => k_is); (case c30 => k_is); (case k30 => k_is); (case a31 => k_is); (case l31 => k_is); (case c31 => k_is)
    (case k31 => k_is); (case a32 => k_is); (case l32 => k_is); (case c32 => k_is); (case k32 => k_is); (case a33 => k_is)
    (case l33 => k_is); (case c33 => k_is); (case k33 => k_is); (case a34 => k_is); (case l34 => k_is); (case c34 => k_is)
    (case k34 => k_is); (case a35 => k_is); (case l35 => k_is); (case c35 => k_is); (case k35 => k_is); (case a36 => k_is)
    (case l36 => k_is); (case c36 => k_is); (case k36 => k_is); (case a37 => k_is); (case l37 => k_is); (case c37 => k_is)
    (case k37 => k_is); (case a38 => k_is); (case l38 => k_is); (case c38 => k_is); (case k38 => k_is); (case a39 => k_is)
    (case l39 => k_is); (case c39 => k_is); (case k39 => k_is); (case a40 => k_is); (case l40 => k_is); (case c40 => k_is)
    (case k40 => k_is); (case a41 => k_is); (case l41 => k_is); (case c41 => k_is); (case k41 => k_is); (case a42 => k_is)
    (case i42 => k_is); (case l42 => k_is); (case c42 => k_is); (case k42 => k_is); (case a43 => k_is); (case i43 => k_is)
    (case l43 => k_is); (case c43 => k_is); (case k43 => k_is); (case a44 => k_is); (case i44 => k_is); (case l44 => k_is)
    (case c44 => k_is); (case k44 => k_is); (case a45 => k_is); (case i45 => k_is); (case l45 => k_is); (case c45 => k_is)
    (case k45 => k_is); (case a46 => k_is); (case pg46 => k_is); (case t46 => k_is); (case r46 => k_is); (case l46 => k_is)
    (case c46 => k_is); (case k46 => k_is); (case rd47 => k_is); (case ga47 => k_is); (case a47 => k_is); (case r47 => k_is)
    (case fi47 => k_is); (case l47 => k_is); (case c47 => k_is); (case k47 => k_is)
    (case q1 => kernel_rfl)
    (case q2 => kernel_rfl)
    (case q3 => kernel_rfl)
    (case q4 => kernel_rfl)
    (case q5 => kernel_rfl)
    (case q6 => kernel_rfl))
