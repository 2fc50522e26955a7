package tests

import (
	"slices"
	"testing"

	"loop.example/g03221/impl"
)

// eachPair gives check each pair of persons of many families.
func eachPair(t *testing.T, seed uint64, check func(f impl.Family, a int, b int)) {
	t.Helper()
	r := newChance(seed)
	for _, f := range degreeFamilies(t, r, 8) {
		for a := range f.People {
			for b := range f.People {
				check(f, a, b)
			}
		}
	}
}

func TestP8DegreesAreTheSameBothWays(t *testing.T) {
	eachPair(t, 157, func(f impl.Family, a int, b int) {
		expect(t, impl.CommonAncestors(f, a, b), impl.CommonAncestors(f, b, a), "CommonAncestors %v %d %d", f, a, b)
		expect(t, impl.NearestCommon(f, a, b), impl.NearestCommon(f, b, a), "NearestCommon %v %d %d", f, a, b)
		civil, related := impl.CivilDegree(f, a, b)
		back, ok := impl.CivilDegree(f, b, a)
		expect(t, []any{back, ok}, []any{civil, related}, "CivilDegree %v %d %d", f, a, b)
		canon, ok := impl.CanonDegree(f, a, b)
		expect(t, ok, related, "CanonDegree %v %d %d succeeds", f, a, b)
		back, ok = impl.CanonDegree(f, b, a)
		expect(t, []any{back, ok}, []any{canon, related}, "CanonDegree %v %d %d", f, a, b)
		n, m, _ := impl.LinkOf(f, a, b)
		x, y, _ := impl.LinkOf(f, b, a)
		expect(t, []int{x + y, max(x, y)}, []int{n + m, max(n, m)}, "LinkOf %v %d %d", f, a, b)
		expect(t, canon <= max(n, m) && max(n, m) <= civil && civil <= 2*max(n, m), true, "the degrees of %v %d %d", f, a, b)
	})
}

func TestP8KinshipIsTheSameBothWays(t *testing.T) {
	eachPair(t, 158, func(f impl.Family, a int, b int) {
		expect(t, impl.Kinship(f, a, b), impl.Kinship(f, b, a), "Kinship %v %d %d", f, a, b)
		if b > a {
			return
		}
		sum, ok := impl.KinshipByLines(f, a, b)
		back, again := impl.KinshipByLines(f, b, a)
		expect(t, back, sum, "KinshipByLines %v %d %d", f, a, b)
		expect(t, again, ok, "KinshipByLines %v %d %d succeeds", f, a, b)
	})
}

func TestP8KinshipByLinesIsKinship(t *testing.T) {
	count := map[bool]int{}
	eachPair(t, 159, func(f impl.Family, a int, b int) {
		sum, ok := impl.KinshipByLines(f, a, b)
		count[ok]++
		if ok {
			expect(t, sum, impl.Kinship(f, a, b), "KinshipByLines %v %d %d", f, a, b)
		}
		few := true
		for _, q := range impl.CommonAncestors(f, a, b) {
			_, fewA := impl.DescentLines(f, q, a)
			_, fewB := impl.DescentLines(f, q, b)
			few = few && fewA && fewB
		}
		expect(t, ok, few, "KinshipByLines %v %d %d succeeds", f, a, b)
	})
	if count[true] < 1000 || count[false] < 100 {
		t.Errorf("few lines or too many: %v", count)
	}
}

// sumOf adds dyads that have a sum.
func sumOf(t *testing.T, list ...impl.Dyad) impl.Dyad {
	t.Helper()
	sum := impl.Dyad{}
	for _, d := range list {
		next, ok := impl.AddDyads(sum, d)
		expect(t, ok, true, "AddDyads %v %v succeeds", sum, d)
		sum = next
	}
	return sum
}

// TestP8KinshipFollowsTheParents: twice the kinship is 1 and the inbreeding, or the sum of that with the parents.
func TestP8KinshipFollowsTheParents(t *testing.T) {
	eachPair(t, 160, func(f impl.Family, a int, b int) {
		x := impl.Kinship(f, a, b)
		expect(t, wantDyad(x), true, "Kinship %v %d %d is valid", f, a, b)
		twice := sumOf(t, x, x)
		if a == b {
			expect(t, twice, sumOf(t, impl.Dyad{Num: 1}, impl.Inbreeding(f, a)), "Kinship %v %d with itself", f, a)
			return
		}
		if slices.Contains(impl.AncestorsOf(f, b), a) {
			return
		}
		parts := []impl.Dyad{}
		for _, parent := range impl.ParentsOf(f, a) {
			parts = append(parts, impl.Kinship(f, b, parent))
		}
		expect(t, twice, sumOf(t, parts...), "Kinship %v %d %d", f, a, b)
	})
}

// TestP8KinshipOfRelatives: only relatives have any, and no less than by the shortest way between them.
func TestP8KinshipOfRelatives(t *testing.T) {
	eachPair(t, 161, func(f impl.Family, a int, b int) {
		x := impl.Kinship(f, a, b)
		civil, related := impl.CivilDegree(f, a, b)
		expect(t, x.Num > 0, related, "Kinship %v %d %d", f, a, b)
		expect(t, len(impl.CommonAncestors(f, a, b)) > 0, related, "CommonAncestors %v %d %d", f, a, b)
		expect(t, len(impl.NearestCommon(f, a, b)) > 0, related, "NearestCommon %v %d %d", f, a, b)
		if related {
			expect(t, fraction(x.Num, x.Exp).Cmp(fraction(1, civil+1)) >= 0, true, "Kinship %v %d %d and the degree %d", f, a, b, civil)
		}
	})
}

// TestP8AncestorsAreTheClosure: the ancestors are those whom the closure of the relation to parents reaches.
func TestP8AncestorsAreTheClosure(t *testing.T) {
	r := newChance(162)
	for _, f := range degreeFamilies(t, r, 20) {
		pairs := []impl.Pair{}
		for p := range f.People {
			for _, parent := range impl.ParentsOf(f, p) {
				pairs = append(pairs, impl.Pair{A: p, B: parent})
			}
		}
		above := impl.ClosureRelation(relation(t, len(f.People), pairs...))
		below := impl.ConverseRelation(above)
		for p := range f.People {
			expect(t, impl.AncestorsOf(f, p), above.Rows[p], "AncestorsOf %v %d", f, p)
			expect(t, impl.DescendantsOf(f, p), below.Rows[p], "DescendantsOf %v %d", f, p)
		}
	}
}

// TestP8LinesAreWaysUp: lines lead from ancestors alone, by parents, and the shortest one has the least steps.
func TestP8LinesAreWaysUp(t *testing.T) {
	eachPair(t, 163, func(f impl.Family, q int, p int) {
		lines, ok := impl.DescentLines(f, q, p)
		n, isUp := impl.StepsUp(f, p, q)
		expect(t, isUp, q == p || slices.Contains(impl.AncestorsOf(f, p), q), "StepsUp %v %d %d succeeds", f, p, q)
		if !ok {
			expect(t, isUp, true, "StepsUp %v %d %d succeeds with many lines", f, p, q)
			return
		}
		expect(t, len(lines) > 0, isUp, "DescentLines %v %d %d", f, q, p)
		least := len(f.People)
		for i, line := range lines {
			least = min(least, len(line)-1)
			good := line[0] == q && line[len(line)-1] == p && (i == 0 || slices.Compare(lines[i-1], line) < 0)
			for k := range line[1:] {
				good = good && slices.Contains(impl.ParentsOf(f, line[k+1]), line[k])
			}
			expect(t, good, true, "DescentLines %v %d %d: %v", f, q, p, line)
		}
		if isUp {
			expect(t, least, n, "the shortest of DescentLines %v %d %d", f, q, p)
		}
	})
}
