package impl

import (
	"cmp"
	"slices"
	"strconv"
	"strings"
)

const MaxPeople = 40
const MaxUnions = 60
const MaxYear = 9999
const MaxName = 12
const MaxDepth = 10

const (
	Man   = 1
	Woman = 2
)

// nobody and never stand for a parent who is not known and a year that has not come.
const (
	nobody = -1
	never  = -1
)

type Person struct {
	Name   string
	Sex    int
	Father int
	Mother int
	Born   int
	Died   int
}

type Union struct {
	Man   int
	Woman int
	From  int
	To    int
}

type Family struct {
	People []Person
	Unions []Union
}

func IsName(s string) bool {
	if len(s) == 0 || len(s) > MaxName {
		return false
	}
	for _, r := range s {
		if r < 'a' || r > 'z' {
			return false
		}
	}
	return true
}

func IsFamily(f Family) bool {
	if len(f.People) > MaxPeople || len(f.Unions) > MaxUnions {
		return false
	}
	for i, p := range f.People {
		if !isPersonAfter(f.People[:i], p) {
			return false
		}
	}
	for k, u := range f.Unions {
		if !isUnionAfter(f.Unions[:k], u, f.People) {
			return false
		}
	}
	for _, depth := range depthsOf(f.People) {
		if depth > MaxDepth {
			return false
		}
	}
	return true
}

// isPersonAfter relies on the persons before p being valid.
func isPersonAfter(before []Person, p Person) bool {
	if _, taken := indexOfName(before, p.Name); taken || !IsName(p.Name) {
		return false
	}
	if p.Sex != Man && p.Sex != Woman {
		return false
	}
	if p.Born < 0 || p.Born > MaxYear || !isEndYear(p.Died, p.Born) {
		return false
	}
	return isParentOf(before, p.Father, Man, p.Born) && isParentOf(before, p.Mother, Woman, p.Born)
}

func isEndYear(year int, begin int) bool {
	return year == never || year >= begin && year <= MaxYear
}

func isParentOf(before []Person, parent int, sex int, born int) bool {
	if parent == nobody {
		return true
	}
	if parent < 0 || parent >= len(before) {
		return false
	}
	x := before[parent]
	if x.Sex != sex || x.Born >= born {
		return false
	}
	// A child can be born after the death of the father, but not after that of the mother.
	if sex == Man {
		return livedTo(x, born-1)
	}
	return livedTo(x, born)
}

// livedTo asks for death only: a person who dies in a year still counts for it.
func livedTo(p Person, year int) bool {
	return p.Died == never || p.Died >= year
}

// isUnionAfter relies on all persons being valid.
func isUnionAfter(before []Union, u Union, people []Person) bool {
	if !isOfSex(people, u.Man, Man) || !isOfSex(people, u.Woman, Woman) {
		return false
	}
	if u.From > MaxYear || !isEndYear(u.To, u.From) || isUnited(before, u.Man, u.Woman) {
		return false
	}
	last := max(u.From, u.To)
	for _, p := range []Person{people[u.Man], people[u.Woman]} {
		if u.From < p.Born || !livedTo(p, last) {
			return false
		}
	}
	return true
}

func isOfSex(people []Person, p int, sex int) bool {
	return p >= 0 && p < len(people) && people[p].Sex == sex
}

func isUnited(unions []Union, man int, woman int) bool {
	return slices.ContainsFunc(unions, func(u Union) bool {
		return u.Man == man && u.Woman == woman
	})
}

// depthsOf needs one pass only, because parents are listed before their children.
func depthsOf(people []Person) []int {
	depths := make([]int, len(people))
	for i, p := range people {
		for _, parent := range knownParents(p) {
			depths[i] = max(depths[i], depths[parent]+1)
		}
	}
	return depths
}

func knownParents(p Person) []int {
	var parents []int
	for _, parent := range []int{p.Father, p.Mother} {
		if parent != nobody {
			parents = append(parents, parent)
		}
	}
	return parents
}

func EqualFamilies(a Family, b Family) bool {
	return slices.Equal(a.People, b.People) && slices.Equal(a.Unions, b.Unions)
}

func FindPerson(f Family, name string) (int, bool) {
	if !IsFamily(f) {
		return 0, false
	}
	return indexOfName(f.People, name)
}

func indexOfName(people []Person, name string) (int, bool) {
	for i, p := range people {
		if p.Name == name {
			return i, true
		}
	}
	return 0, false
}

func hasPerson(f Family, p int) bool {
	return p >= 0 && p < len(f.People) && IsFamily(f)
}

func DepthOf(f Family, p int) int {
	if !hasPerson(f, p) {
		return 0
	}
	return depthsOf(f.People)[p]
}

func ParentsOf(f Family, p int) []int {
	if !hasPerson(f, p) {
		return nil
	}
	return knownParents(f.People[p])
}

func IsElder(f Family, a int, b int) bool {
	return hasPerson(f, a) && hasPerson(f, b) && compareAge(f, a, b) < 0
}

func compareAge(f Family, a int, b int) int {
	return cmp.Or(cmp.Compare(f.People[a].Born, f.People[b].Born), cmp.Compare(a, b))
}

func ChildrenOf(f Family, p int) []int {
	if !hasPerson(f, p) {
		return nil
	}
	return eldestFirst(f, func(q int) bool {
		return f.People[q].Father == p || f.People[q].Mother == p
	})
}

func eldestFirst(f Family, wanted func(q int) bool) []int {
	list := peopleWhere(f, wanted)
	slices.SortFunc(list, func(a int, b int) int { return compareAge(f, a, b) })
	return list
}

func peopleWhere(f Family, wanted func(q int) bool) []int {
	var list []int
	for q := range f.People {
		if wanted(q) {
			list = append(list, q)
		}
	}
	return list
}

func FullSiblings(f Family, p int) []int {
	if !hasPerson(f, p) {
		return nil
	}
	return eldestFirst(f, func(q int) bool { return areFullSiblings(f, p, q) })
}

func HalfSiblings(f Family, p int) []int {
	if !hasPerson(f, p) {
		return nil
	}
	return eldestFirst(f, func(q int) bool {
		return q != p && parentsInCommon(f, p, q) > 0 && !areFullSiblings(f, p, q)
	})
}

func areFullSiblings(f Family, p int, q int) bool {
	return p != q && parentsInCommon(f, p, q) == 2
}

func parentsInCommon(f Family, p int, q int) int {
	n := 0
	// A father and a mother differ in sex, so that nobody is counted twice.
	for _, parent := range knownParents(f.People[p]) {
		if f.People[q].Father == parent || f.People[q].Mother == parent {
			n++
		}
	}
	return n
}

func PartnersOf(f Family, p int) []int {
	if !hasPerson(f, p) {
		return nil
	}
	return partnersIn(f, p, func(u Union) bool { return true })
}

func partnersIn(f Family, p int, counts func(u Union) bool) []int {
	var partners []int
	for _, u := range f.Unions {
		if !counts(u) {
			continue
		}
		switch p {
		case u.Man:
			partners = append(partners, u.Woman)
		case u.Woman:
			partners = append(partners, u.Man)
		}
	}
	return partners
}

func UnionEnd(f Family, k int) (int, bool) {
	if k < 0 || k >= len(f.Unions) || !IsFamily(f) {
		return 0, false
	}
	return endOf(f, f.Unions[k])
}

func endOf(f Family, u Union) (int, bool) {
	if u.To != never {
		return u.To, true
	}
	a, b := f.People[u.Man].Died, f.People[u.Woman].Died
	switch {
	case a == never && b == never:
		return 0, false
	case a == never:
		return b, true
	case b == never:
		return a, true
	}
	return min(a, b), true
}

func IsAlive(f Family, p int, year int) bool {
	return hasPerson(f, p) && isAliveIn(f.People[p], year)
}

func isAliveIn(p Person, year int) bool {
	return p.Born <= year && (p.Died == never || p.Died > year)
}

func MarriedAt(f Family, p int, year int) []int {
	if !hasPerson(f, p) {
		return nil
	}
	return partnersAt(f, p, year)
}

func partnersAt(f Family, p int, year int) []int {
	return partnersIn(f, p, func(u Union) bool {
		end, ended := endOf(f, u)
		return u.From <= year && (!ended || end > year)
	})
}

func FormatFamily(f Family) string {
	if !IsFamily(f) {
		return ""
	}
	var text strings.Builder
	writeLine := func(parts ...string) {
		text.WriteString(strings.Join(parts, " "))
		text.WriteByte('\n')
	}
	for _, p := range f.People {
		writeLine(sexWord(p.Sex), p.Name, nameOf(f, p.Father), nameOf(f, p.Mother), yearText(p.Born), yearText(p.Died))
	}
	for _, u := range f.Unions {
		writeLine("union", nameOf(f, u.Man), nameOf(f, u.Woman), yearText(u.From), yearText(u.To))
	}
	return text.String()
}

func sexWord(sex int) string {
	if sex == Man {
		return "man"
	}
	return "woman"
}

func nameOf(f Family, p int) string {
	if p == nobody {
		return "-"
	}
	return f.People[p].Name
}

func yearText(year int) string {
	if year == never {
		return "-"
	}
	return strconv.Itoa(year)
}

func ParseFamily(s string) (Family, bool) {
	var f Family
	read := readLines(s, func(line string) bool { return addLine(&f, line) })
	// This also refuses families that are not valid, and persons behind unions.
	if !read || FormatFamily(f) != s {
		return Family{}, false
	}
	return f, true
}

// readLines gives each line of a text to add, until add refuses one, and reports whether all are accepted and end with a newline.
func readLines(s string, add func(line string) bool) bool {
	for s != "" {
		line, rest, ended := strings.Cut(s, "\n")
		if !ended || !add(line) {
			return false
		}
		s = rest
	}
	return true
}

func addLine(f *Family, line string) bool {
	kind, text, _ := strings.Cut(line, " ")
	parts := strings.Split(text, " ")
	switch kind {
	case "man":
		return addPerson(f, Man, parts)
	case "woman":
		return addPerson(f, Woman, parts)
	case "union":
		return addUnion(f, parts)
	}
	return false
}

func addPerson(f *Family, sex int, parts []string) bool {
	if len(parts) != 5 || len(f.People) == MaxPeople {
		return false
	}
	father, hasFather := parseParent(*f, parts[1])
	mother, hasMother := parseParent(*f, parts[2])
	born, hasBorn := parseYear(parts[3])
	died, hasDied := parseEnd(parts[4])
	f.People = append(f.People, Person{parts[0], sex, father, mother, born, died})
	return hasFather && hasMother && hasBorn && hasDied
}

func addUnion(f *Family, parts []string) bool {
	if len(parts) != 4 || len(f.Unions) == MaxUnions {
		return false
	}
	man, hasMan := indexOfName(f.People, parts[0])
	woman, hasWoman := indexOfName(f.People, parts[1])
	from, hasFrom := parseYear(parts[2])
	to, hasTo := parseEnd(parts[3])
	f.Unions = append(f.Unions, Union{man, woman, from, to})
	return hasMan && hasWoman && hasFrom && hasTo
}

// parseParent knows the persons of the lines before only: a parent is listed before a child.
func parseParent(f Family, s string) (int, bool) {
	if s == "-" {
		return nobody, true
	}
	return indexOfName(f.People, s)
}

func parseEnd(s string) (int, bool) {
	if s == "-" {
		return never, true
	}
	return parseYear(s)
}

func parseYear(s string) (int, bool) {
	if s == "" || len(s) > 1 && s[0] == '0' {
		return 0, false
	}
	year := 0
	for _, r := range s {
		if r < '0' || r > '9' {
			return 0, false
		}
		year = year*10 + int(r-'0')
		if year > MaxYear {
			return 0, false
		}
	}
	return year, true
}

func RenamePeople(f Family, names []string) (Family, bool) {
	if !IsFamily(f) || len(names) != len(f.People) {
		return Family{}, false
	}
	g := Family{slices.Clone(f.People), slices.Clone(f.Unions)}
	for i, name := range names {
		g.People[i].Name = name
	}
	return validFamily(g)
}

func validFamily(f Family) (Family, bool) {
	if !IsFamily(f) {
		return Family{}, false
	}
	return f, true
}

func PermutePeople(f Family, order []int) (Family, bool) {
	if !IsFamily(f) || len(order) != len(f.People) {
		return Family{}, false
	}
	places, ok := placesIn(order)
	if !ok {
		return Family{}, false
	}
	moved := func(p int) int {
		if p == nobody {
			return nobody
		}
		return places[p]
	}
	var g Family
	for _, i := range order {
		p := f.People[i]
		p.Father, p.Mother = moved(p.Father), moved(p.Mother)
		g.People = append(g.People, p)
	}
	for _, u := range f.Unions {
		u.Man, u.Woman = moved(u.Man), moved(u.Woman)
		g.Unions = append(g.Unions, u)
	}
	return validFamily(g)
}

// placesIn tells at which place of the order each index stands, if each one does once.
func placesIn(order []int) ([]int, bool) {
	places := make([]int, len(order))
	found := make([]bool, len(order))
	for k, i := range order {
		if i < 0 || i >= len(order) || found[i] {
			return nil, false
		}
		places[i], found[i] = k, true
	}
	return places, true
}
