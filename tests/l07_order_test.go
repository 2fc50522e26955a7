package tests

import (
	"fmt"
	"math/rand/v2"
	"slices"
	"testing"

	"loop.example/g03221/impl"
)

// descentOf writes what chapter 8 says of a family, with classes that are given and classes that are partly given.
func descentOf(f impl.Family, c impl.Classes, given []int, open []int) string {
	all := []any{impl.LinesOf(f, impl.Man), impl.LinesOf(f, impl.Woman), impl.DoubleLines(f), impl.IsExogamous(f, given)}
	for p := range f.People {
		for _, sex := range []int{impl.Man, impl.Woman} {
			founder, ok := impl.FounderOf(f, p, sex)
			all = append(all, founder, ok, impl.SameLine(f, 0, p, sex))
		}
	}
	byMen, hasByMen := impl.MoietiesOf(f, impl.Man)
	byWomen, hasByWomen := impl.MoietiesOf(f, impl.Woman)
	wrong, hasClasses := impl.ClassErrors(f, c, given)
	assigned, isAssigned := impl.AssignClasses(f, c, open)
	return fmt.Sprint(append(all, byMen, hasByMen, byWomen, hasByWomen, wrong, hasClasses, assigned, isAssigned))
}

func TestP2NamesDoNotMatterForLines(t *testing.T) {
	r := newChance(145)
	for range 60 {
		c := chanceSystem(r, 1+r.IntN(8))
		f, classes := classedFamily(r, c, r.IntN(30))
		g, ok := impl.RenamePeople(f, otherNames(len(f.People)))
		if !ok {
			t.Fatalf("RenamePeople refuses %v", f)
		}
		open := opened(r, classes)
		expect(t, descentOf(g, c, classes, open), descentOf(f, c, classes, open), "the descent of %v under other names", f)
	}
}

// movedList returns the list with each element in the place of its person.
func movedList(list []int, places []int) []int {
	moved := make([]int, len(list))
	for i, x := range list {
		moved[places[i]] = x
	}
	return moved
}

// checkMovedLines: the persons are those of f, each one in its place.
func checkMovedLines(t *testing.T, f impl.Family, g impl.Family, places []int) {
	t.Helper()
	for _, sex := range []int{impl.Man, impl.Woman} {
		expect(t, len(impl.LinesOf(g, sex)), len(impl.LinesOf(f, sex)), "LinesOf %v and %v", f, g)
		for p := range f.People {
			a, _ := impl.FounderOf(f, p, sex)
			b, _ := impl.FounderOf(g, places[p], sex)
			expect(t, b, places[a], "FounderOf %d and %d for %d of %v and %v", p, places[p], sex, f, g)
		}
		a, isA := impl.MoietiesOf(f, sex)
		b, isB := impl.MoietiesOf(g, sex)
		expect(t, isA, isB, "MoietiesOf %v and %v for %d", f, g, sex)
		if isA && isB {
			expect(t, areMoieties(g, sex, movedList(a, places)) && areMoieties(g, sex, b), true, "the moieties %v and %v of %v and %v", a, b, f, g)
		}
	}
	expect(t, len(impl.DoubleLines(g)), len(impl.DoubleLines(f)), "DoubleLines of %v and %v", f, g)
}

// checkMovedClasses does the same for classes.
func checkMovedClasses(t *testing.T, r *rand.Rand, f impl.Family, g impl.Family, places []int, c impl.Classes, classes []int) {
	t.Helper()
	moved := movedList(classes, places)
	expect(t, impl.IsExogamous(g, moved), impl.IsExogamous(f, classes), "IsExogamous %v of %v and %v of %v", classes, f, moved, g)
	wrong, _ := impl.ClassErrors(f, c, classes)
	want := []int{}
	for _, p := range wrong {
		want = append(want, places[p])
	}
	slices.Sort(want)
	got, ok := impl.ClassErrors(g, c, moved)
	expect(t, got, want, "ClassErrors %s %v of %v and %v of %v", systemText(c), classes, f, moved, g)
	expect(t, ok, true, "ClassErrors %s %v of %v succeeds", systemText(c), moved, g)
	open := opened(r, classes)
	_, isA := impl.AssignClasses(f, c, open)
	b, isB := impl.AssignClasses(g, c, movedList(open, places))
	expect(t, isA, isB, "AssignClasses %s %v of %v and of %v", systemText(c), open, f, g)
	expect(t, !isB || len(wantErrors(g, c, b)) == 0, true, "the classes %v of %v, in %s", b, g, systemText(c))
}

func TestP2OrderDoesNotMatterForLines(t *testing.T) {
	r := newChance(146)
	for i := range 120 {
		c := chanceSystem(r, 1+r.IntN(8))
		f, classes := classedFamily(r, c, r.IntN(30))
		if i%2 == 0 {
			f = kinFamily(r, len(f.People))
		}
		order := parentsFirst(r, f)
		g, ok := impl.PermutePeople(f, order)
		if !ok {
			t.Fatalf("PermutePeople refuses %v for %v", order, f)
		}
		places := make([]int, len(order))
		for k, p := range order {
			places[p] = k
		}
		checkMovedLines(t, f, g, places)
		checkMovedClasses(t, r, f, g, places, c, classes)
	}
}

// TestP6NamesOfClassesDoNotMatterForPersons: under other names, persons are of the same classes.
func TestP6NamesOfClassesDoNotMatterForPersons(t *testing.T) {
	r := newChance(147)
	for i := range 200 {
		c := chanceSystem(r, 1+r.IntN(8))
		f, classes := classedFamily(r, c, r.IntN(30))
		if i%2 == 0 {
			f = kinFamily(r, len(f.People))
		}
		names := r.Perm(len(c.Wife))
		d, _ := impl.RelabelClasses(c, names)
		renamed := func(list []int) []int {
			other := slices.Clone(list)
			for i, x := range list {
				if x != -1 {
					other[i] = names[x]
				}
			}
			return other
		}
		a, _ := impl.ClassErrors(f, c, classes)
		b, ok := impl.ClassErrors(f, d, renamed(classes))
		expect(t, b, a, "ClassErrors %s %v of %v, renamed by %v", systemText(c), classes, f, names)
		expect(t, ok, true, "ClassErrors %s of %v succeeds", systemText(d), f)
		open := opened(r, classes)
		list, isA := impl.AssignClasses(f, c, open)
		_, isB := impl.AssignClasses(f, d, renamed(open))
		expect(t, isA, isB, "AssignClasses %s %v of %v, renamed by %v", systemText(c), open, f, names)
		expect(t, !isA || len(wantErrors(f, d, renamed(list))) == 0, true, "the classes %v of %v, renamed by %v", list, f, names)
	}
}
