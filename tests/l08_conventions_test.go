package tests

import (
	"fmt"
	"testing"

	"loop.example/g03221/impl"
)

// checkNoDegrees: there are zero values for two persons of whom one is not there, or for a family that is not valid.
func checkNoDegrees(t *testing.T, f impl.Family, a int, b int, label string) {
	t.Helper()
	n, ok := impl.StepsUp(f, a, b)
	expect(t, []any{n, ok}, []any{0, false}, "StepsUp %d %d: %s", a, b, label)
	expect(t, len(impl.CommonAncestors(f, a, b)), 0, "CommonAncestors %d %d: %s", a, b, label)
	expect(t, len(impl.NearestCommon(f, a, b)), 0, "NearestCommon %d %d: %s", a, b, label)
	checkNoLink(t, f, a, b)
	lines, ok := impl.DescentLines(f, a, b)
	expect(t, []any{len(lines), ok}, []any{0, false}, "DescentLines %d %d: %s", a, b, label)
	expect(t, impl.Kinship(f, a, b), impl.Dyad{}, "Kinship %d %d: %s", a, b, label)
	sum, ok := impl.KinshipByLines(f, a, b)
	checkNoDyad(t, sum, ok, "KinshipByLines %d %d: %s", a, b, label)
}

// checkNobodyAbove does the same for one person.
func checkNobodyAbove(t *testing.T, f impl.Family, p int, label string) {
	t.Helper()
	expect(t, len(impl.AncestorsOf(f, p)), 0, "AncestorsOf %d: %s", p, label)
	expect(t, len(impl.DescendantsOf(f, p)), 0, "DescendantsOf %d: %s", p, label)
	expect(t, impl.Inbreeding(f, p), impl.Dyad{}, "Inbreeding %d: %s", p, label)
}

func TestP13DegreesOfFamiliesThatAreNotValid(t *testing.T) {
	for i, f := range notFamilies(t) {
		label := fmt.Sprint("after change ", i)
		for a := range f.People {
			checkNobodyAbove(t, f, a, label)
			for b := range f.People {
				checkNoDegrees(t, f, a, b, label)
			}
		}
	}
}

func TestP13DegreesOfNoSuchPerson(t *testing.T) {
	for _, f := range []impl.Family{parse(t, house), ladder(10), {}} {
		for _, p := range []int{-1, -2, len(f.People), len(f.People) + 1, 40, 64, lowest, highest} {
			checkNobodyAbove(t, f, p, "no such person")
			checkNoDegrees(t, f, p, p, "no such person")
			for q := range f.People {
				checkNoDegrees(t, f, p, q, "no such person")
				checkNoDegrees(t, f, q, p, "no such person")
			}
		}
	}
}

func TestP13DegreesArgumentsAreKept(t *testing.T) {
	r := newChance(167)
	families := append(degreeFamilies(t, r, 20), notFamilies(t)...)
	for _, f := range families {
		f = roomyFamily(f)
		before := fmt.Sprint(f.People[:cap(f.People)], f.Unions[:cap(f.Unions)])
		for range 10 {
			askPeople(f, r.IntN(len(f.People)+2)-1, r.IntN(len(f.People)+2)-1)
		}
		expect(t, fmt.Sprint(f.People[:cap(f.People)], f.Unions[:cap(f.Unions)]), before, "a family and the room behind it")
	}
}

func TestP13DegreesResultsAreNew(t *testing.T) {
	r := newChance(168)
	for _, f := range degreeFamilies(t, r, 20) {
		if len(f.People) == 0 {
			continue
		}
		before := fmt.Sprint(f)
		for range 10 {
			a, b := r.IntN(len(f.People)), r.IntN(len(f.People))
			lists, all := askPeople(f, a, b)
			want := fmt.Sprint(lists)
			expect(t, writeLists(lists), true, "results that share no memory, for %d and %d of %s", a, b, before)
			lines, _ := impl.DescentLines(f, a, b)
			clear(lines[:cap(lines)])
			again, allAgain := askPeople(f, a, b)
			expect(t, fmt.Sprint(again), want, "the lists after others were changed")
			expect(t, allAgain, all, "the answers after others were changed")
		}
		expect(t, fmt.Sprint(f), before, "the family after the results were changed")
	}
}

func TestP13DegreesAreTheSameEachTime(t *testing.T) {
	r := newChance(169)
	for _, f := range degreeFamilies(t, r, 10) {
		if len(f.People) == 0 {
			continue
		}
		a, b := r.IntN(len(f.People)), r.IntN(len(f.People))
		lists, all := askPeople(f, a, b)
		for range 3 {
			again, allAgain := askPeople(roomyFamily(f), a, b)
			expect(t, again, lists, "lists for %d and %d of %v", a, b, f)
			expect(t, allAgain, all, "answers for %d and %d of %v", a, b, f)
		}
	}
}

// TestP13DegreesNoPanic gives functions families and dyads that are far from valid.
func TestP13DegreesNoPanic(t *testing.T) {
	r := newChance(170)
	count := map[bool]int{}
	numbers := []int{lowest, lowest + 1, -1, 0, 1, 2, 3, 30, 31, 63, 64, 1 << 29, 1 << 30, 1<<30 + 1, 1 << 62, highest}
	for range 3000 {
		f := junkFamily(r)
		valid := wantFamily(f)
		a, b := r.IntN(len(f.People)+2)-1, r.IntN(len(f.People)+2)-1
		known := valid && a >= 0 && a < len(f.People) && b >= 0 && b < len(f.People)
		count[known]++
		_, ok := impl.DescentLines(f, a, b)
		expect(t, ok, known, "DescentLines %v %d %d succeeds", f, a, b)
		if !known {
			checkNoDegrees(t, f, a, b, "not valid")
		}
		if !valid {
			checkNobodyAbove(t, f, a, "not valid")
		}
		num, exp := numbers[r.IntN(len(numbers))], numbers[r.IntN(len(numbers))]
		d, ok := impl.DyadOf(num, exp)
		expect(t, ok, num >= 0 && num <= 1<<30 && exp >= 0 && exp <= 30, "DyadOf %d %d succeeds", num, exp)
		x := impl.Dyad{Num: numbers[r.IntN(len(numbers))], Exp: numbers[r.IntN(len(numbers))]}
		_, ok = impl.AddDyads(x, impl.Dyad{})
		expect(t, ok, wantDyad(x), "AddDyads %v succeeds", x)
		impl.AddDyads(d, x)
		expect(t, impl.FormatDyad(x) != "", wantDyad(x), "FormatDyad %v", x)
	}
	if count[true] < 500 || count[false] < 500 {
		t.Errorf("known or not: %v", count)
	}
}
