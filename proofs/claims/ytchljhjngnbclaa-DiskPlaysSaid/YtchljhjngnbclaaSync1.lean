/- DiskSynced's parts: the closure, the two arrays, one round of its first two loops. -/
import Derived.Test.YtchljhjngnbclaaLong
import Derived.Test.YtchljhjngnbclaaD9
import Derived.Test.YtchljhjngnbclaaArmed
namespace Go.Proofs.Ytchljhjngnbclaa
open Go.RowKit Go.Maps
set_option linter.unusedVariables false
set_option linter.unusedSimpArgs false

theorem at_any (k q n : Int) (bv kv : Value) (w : World) : Calls Try.prog 23 #[.agg #[.int .i64 k, .int .i64 q, .int .i64 n, bv, kv]] w fun e w' => e = .returned (.int .i64 (wrap64 ((IntKind.u64.wrap q).tmod 16))) ∧ Only [] w w' := by
  go_enter Try.func23, Try.ntmps23
  go_wp2
  go_ret
  exact ⟨rfl, (Only.refl _ _).alloc _⟩

theorem mod_nat (q : Int) : ∃ j : Nat, j < 16 ∧ wrap64 ((IntKind.u64.wrap q).tmod 16) = (j : Int) := by
  have h : 0 ≤ IntKind.u64.wrap q := by rw [IntKind.wrap_u64]; omega
  rw [Int.tmod_eq_emod_of_nonneg h]
  have a := Int.emod_nonneg (IntKind.u64.wrap q) (show (16 : Int) ≠ 0 by omega)
  have b := Int.emod_lt_of_pos (IntKind.u64.wrap q) (show (0 : Int) < 16 by omega)
  rw [wrap_id (by omega) (by omega)]
  exact ⟨(IntKind.u64.wrap q % 16).toNat, by omega, by omega⟩

/-- .. at a number that has a name. -/
theorem at_named (k q n : Int) (bv kv : Value) (w : World) (j : Nat) (hj : wrap64 ((IntKind.u64.wrap q).tmod 16) = (j : Int)) : Calls Try.prog 23 #[.agg #[.int .i64 k, .int .i64 q, .int .i64 n, bv, kv]] w fun e w' => e = .returned (.int .i64 j) ∧ Only [] w w' := by
  have h := at_any k q n bv kv w
  rw [hj] at h
  exact h

/-- Numbers as cells. -/
def arr (l : List Int) : Array Value := (l.map (Value.int .i64)).toArray
theorem arr_size (l : List Int) : (arr l).size = l.length := by simp [arr]
theorem arr_get (l : List Int) (i : Nat) : (arr l)[i]? = (l[i]?).map (Value.int .i64) := by simp [arr]
theorem arr_set (l : List Int) (i : Nat) (x : Int) : (arr l).setIfInBounds i (.int .i64 x) = arr (l.set i x) := by simp [arr, List.map_set]
theorem arr_one (l : List Int) : (arr l).all (·.oneCell') = true := by simp [arr, Value.oneCell']
def noughts : List Int := List.replicate 16 0
theorem zero_arr (w : World) : (zeroValue 49).run Try.prog w = .ok (.agg (arr noughts)) w := by kernel_rfl
theorem info_arr : (Try.prog.info? 49).map (·.size) = some 16 := by kernel_rfl

theorem write_get (d : Disk) (k i : Int) (l : Sec) : (d.write k l).get i = if i = k then l else d.get i := by
  simp only [Disk.get, Disk.write, upd]
  by_cases e : i = k <;> simp [e]
theorem sync_get (d : Disk) (i : Int) : d.sync.get i = d.get i := rfl

/-- The device holds just what the array says. -/
structure SynI (w0 w : World) (a : DA) (d : Disk) (g : Nat) (l : List Int) : Prop where
  st : St w0 w a d
  row : w.heap[g]? = some (.cells (arr l) 49 (0, 0))
  len : l.length = 16
  size : d.size = 16
  arm : d.met.armed = false
  dn : d.met.down = false
  get : ∀ (i : Nat) (x : Int), l[i]? = some x → d.get i = fullOf x

theorem SynI.off {w0 w : World} {a : DA} {d : Disk} {g : Nat} {l : List Int} (h : SynI w0 w a d g l) : d.met.off = false := by simp [Met.off, h.arm, h.dn]

/-- One round of the first two loops: the device and the array behind the write. -/
theorem SynI.write {w0 w w' : World} {a : DA} {d : Disk} {g : Nat} {l : List Int} (h : SynI w0 w a d g l) {j : Nat} (hj : j < 16) {x y : Int} (hxy : fullOf x = fullOf y) (s' : St w0 w' a (d.write j (fullOf x))) (b' : w'.heap[g]? = some (.cells (arr (l.set j y)) 49 (0, 0))) :
    SynI w0 w' a (d.write j (fullOf x)) g (l.set j y) := by
  refine ⟨s', b', by simp [h.len], h.size, h.arm, h.dn, fun i z hz => ?_⟩
  rw [write_get]
  by_cases e : i = j
  · subst e
    rw [List.getElem?_set_self (by rw [h.len]; exact hj)] at hz
    rw [if_pos rfl, hxy, Option.some.inj hz]
  · rw [List.getElem?_set_ne (fun e' => e e'.symm)] at hz
    rw [if_neg (by omega)]
    exact h.get i z hz

section
variable {w : World} {ops : Array Oper} {rest : List Oper} {o : Oper} {a : Act} {Q : Exit → Act → World → Prop}
theorem wpList_alloc_arr (hg : o.guard = none) (hop : o.op = .alloc 49)
    (h : ∀ w' g, w'.heap[g]? = some (.cells (arr noughts) 49 (0, 0)) → w.heap.size ≤ g → Only [] w w' → wpList Try.prog ops Q rest (a.put o.dst (.pointer (some ⟨g, 0, none⟩))) w') : wpList Try.prog ops Q (o :: rest) a w :=
  wpList_alloc_row hg _ hop _ zero_arr (h _ _ (heap_new w _) (Nat.le_refl _) ((Only.refl _ _).alloc _))
theorem wpList_store_arr {l old : List Int} (hg : o.guard = none) (x y : Operand) (ho : o.op = .store 49 x y) (g : Nat) (hx : a.eval x = .pointer (some ⟨g, 0, none⟩)) (hy : a.eval y = .agg (arr l)) (hl : l.length = 16) (hold : old.length = 16)
    (hg' : w.heap[g]? = some (.cells (arr old) 49 (0, 0)))
    (h : ∀ w', w'.heap[g]? = some (.cells (arr l) 49 (0, 0)) → Only [g] w w' → wpList Try.prog ops Q rest (a.put o.dst undef) w') : wpList Try.prog ops Q (o :: rest) a w :=
  wpList_store_row hg _ x y ho g _ hx hy _ _ hg' (by rw [info_arr, arr_size, hl]) (by rw [arr_size, arr_size, hl, hold]) (arr_one l) (h _ (heap_row _ hg') ((Only.refl _ _).setRow (by simp) _))
theorem wpList_load_arr {l : List Int} (hg : o.guard = none) (x : Operand) (ho : o.op = .load 49 x) (g : Nat) (hx : a.eval x = .pointer (some ⟨g, 0, none⟩)) (hl : l.length = 16)
    (hg' : w.heap[g]? = some (.cells (arr l) 49 (0, 0)))
    (h : wpList Try.prog ops Q rest (a.put o.dst (.agg (arr l))) w) : wpList Try.prog ops Q (o :: rest) a w :=
  wpList_load_row hg _ x ho g hx _ _ _ _ hg' Try.underlying49 rfl (by rw [info_arr, arr_size, hl]) h
end

theorem and_255 (n : Int) : bits .and .i64 n 255 = n % 256 := by
  have h : (BitVec.ofInt 64 n &&& BitVec.ofInt 64 255).toNat = (n % 256).toNat := by
    rw [BitVec.toNat_and]
    have e : (BitVec.ofInt 64 255).toNat = 2 ^ 8 - 1 := by decide
    rw [e, Nat.and_two_pow_sub_one_eq_mod, BitVec.toNat_ofInt]
    omega
  unfold bits
  show IntKind.i64.wrap ((BitVec.ofInt 64 n &&& BitVec.ofInt 64 255).toNat : Int) = _
  rw [h, IntWalk.i64_in _ (by omega)]
  omega
theorem full_and (n : Int) : fullOf n = fullOf (bits .and .i64 n 255) := by
  rw [and_255]
  have : byteN (n % 256) = byteN n := by
    unfold byteN
    rw [Int.emod_emod_of_dvd n (by decide)]
  unfold fullOf
  rw [this]

theorem St.poke {w0 w w' : World} {a : DA} {d : Disk} {g : Nat} (h : St w0 w a d) (ho : Only [g] w w') (hg : w0.heap.size ≤ g) (hga : g ∉ a.bl) : St w0 w' a d :=
  ⟨h.dev.kept ho (by simpa using hga), h.only.trans ho (by simpa using hg), h.new⟩

/-- What a crash would leave is what the array says. -/
def OldI (d : Disk) (l : List Int) : Prop := ∀ (i : Nat) (x : Int), l[i]? = some x → (d.old i).getD (d.get i) = fullOf x
theorem OldI.write {d : Disk} {l : List Int} (h : OldI d l) (j : Int) (s : Sec) : OldI (d.write j s) l := by
  intro i x hx
  have h1 := h i x hx
  rw [write_get]
  by_cases e : (i : Int) = j
  · subst e
    simp only [Disk.write]
    cases ho : d.old i with
    | none =>
      rw [ho] at h1
      simpa [upd, ho] using h1
    | some y =>
      rw [ho] at h1
      simpa [ho] using h1
  · rw [if_neg e]
    simp only [Disk.write]
    by_cases hj : (d.old j).isSome = true
    · rw [if_pos hj]
      exact h1
    · rw [if_neg hj]
      simpa [upd, e] using h1
theorem OldI.sync {w0 w : World} {a : DA} {d : Disk} {g : Nat} {l : List Int} (h : SynI w0 w a d g l) : OldI d.sync l := fun i x hx => by
  show (none : Option Sec).getD (d.sync.get i) = _
  exact h.get i x hx
theorem crash_get (d : Disk) (ks : List Int) (i : Int) : (d.crash ks).get i = if i ∈ ks then d.get i else (d.old i).getD (d.get i) := by
  simp only [Disk.get, Disk.crash, back, dels]
  by_cases e : i ∈ ks
  · simp [e]
  · simp only [e, if_false]
    cases d.old i <;> simp
end Go.Proofs.Ytchljhjngnbclaa
