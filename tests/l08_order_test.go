package tests

import (
	"fmt"
	"slices"
	"testing"

	"loop.example/g03221/impl"
)

// askPeople returns the lists of persons that chapter 9 has for two persons, and what else it says of them.
func askPeople(f impl.Family, a int, b int) ([][]int, string) {
	lists := [][]int{impl.AncestorsOf(f, a), impl.DescendantsOf(f, a), impl.CommonAncestors(f, a, b), impl.NearestCommon(f, a, b)}
	lines, few := impl.DescentLines(f, a, b)
	steps, isUp := impl.StepsUp(f, a, b)
	n, m, related := impl.LinkOf(f, a, b)
	civil, hasCivil := impl.CivilDegree(f, a, b)
	canon, hasCanon := impl.CanonDegree(f, a, b)
	sum, hasSum := impl.KinshipByLines(f, a, b)
	all := fmt.Sprint(few, steps, isUp, n, m, related, civil, hasCivil, canon, hasCanon, sum, hasSum, impl.Kinship(f, a, b), impl.Inbreeding(f, a))
	return append(lists, lines...), all
}

func TestP2NamesDoNotMatterForDegrees(t *testing.T) {
	r := newChance(164)
	for _, f := range degreeFamilies(t, r, 10) {
		g, ok := impl.RenamePeople(f, otherNames(len(f.People)))
		if !ok {
			t.Fatalf("RenamePeople refuses %v", f)
		}
		for range 10 * min(1, len(f.People)) {
			a, b := r.IntN(len(f.People)), r.IntN(len(f.People))
			lists, all := askPeople(f, a, b)
			otherLists, otherAll := askPeople(g, a, b)
			expect(t, otherLists, lists, "the lists for %d and %d of %v under other names", a, b, f)
			expect(t, otherAll, all, "what is said of %d and %d of %v under other names", a, b, f)
		}
	}
}

func TestP2OrderDoesNotMatterForDegrees(t *testing.T) {
	r := newChance(165)
	for _, f := range degreeFamilies(t, r, 10) {
		order := parentsFirst(r, f)
		g, ok := impl.PermutePeople(f, order)
		if !ok {
			t.Fatalf("PermutePeople refuses %v for %v", order, f)
		}
		places := make([]int, len(order))
		for k, p := range order {
			places[p] = k
		}
		for range 10 * min(1, len(f.People)) {
			a, b := r.IntN(len(f.People)), r.IntN(len(f.People))
			lists, all := askPeople(f, a, b)
			for i, list := range lists {
				for k, p := range list {
					list[k] = places[p]
				}
				// Persons are listed by their new indices, but in a line each one is followed by a child.
				if i < 4 {
					slices.Sort(list)
				}
			}
			slices.SortFunc(lists[4:], slices.Compare)
			movedLists, movedAll := askPeople(g, places[a], places[b])
			expect(t, movedLists, lists, "the lists for %d and %d of %v in the order %v", a, b, f, order)
			expect(t, movedAll, all, "what is said of %d and %d of %v in the order %v", a, b, f, order)
		}
	}
}

// TestP2UnionsAndYearsDoNotMatterForDegrees: degrees and kinship follow from the parents alone.
func TestP2UnionsAndYearsDoNotMatterForDegrees(t *testing.T) {
	r := newChance(166)
	for _, f := range degreeFamilies(t, r, 10) {
		g := spreadBirths(f)
		if !impl.IsFamily(g) {
			t.Fatalf("not valid: %v", g)
		}
		for range 10 * min(1, len(f.People)) {
			a, b := r.IntN(len(f.People)), r.IntN(len(f.People))
			lists, all := askPeople(f, a, b)
			otherLists, otherAll := askPeople(g, a, b)
			expect(t, otherLists, lists, "the lists for %d and %d of %v with other years", a, b, f)
			expect(t, otherAll, all, "what is said of %d and %d of %v with other years", a, b, f)
		}
	}
}
