package deriv

import (
	"slices"

	"almanac/regex"
)

// rest is what remains to be matched: a tree, and behind it what the rest with the number then tells.
// The rest without a tree is the end, whose number is 0.
type rest struct {
	tree *regex.Node
	then int
	// again tells that the tree is a Plus which has been matched at least once, so that it may be left out.
	again bool
}

// step is a way to go on: by a byte of the set, behind which the rest with the number then remains.
type step struct {
	set  regex.Set
	then int
}

// matcher matches bytes one after another.
type matcher struct {
	rests   []rest       // by their numbers
	numbers map[rest]int // so that equal rests have one number, and their count stays bounded
	steps   [][]step     // of the rests, by their numbers; nil as long as nobody has asked
	left    map[rest]int // what may remain behind the bytes so far, with its numbers
	spare   map[rest]int // what was left one byte ago, kept for its memory
}

// matcherOf gives a matcher for which the whole tree remains; nothing does of nil.
func matcherOf(tree *regex.Node) *matcher {
	m := &matcher{numbers: map[rest]int{}, left: map[rest]int{}, spare: map[rest]int{}}
	m.number(rest{})
	if tree != nil {
		whole := rest{tree: tree}
		m.left[whole] = m.number(whole)
	}
	return m
}

func (m *matcher) number(r rest) int {
	number, ok := m.numbers[r]
	if !ok {
		number = len(m.rests)
		m.rests = append(m.rests, r)
		m.steps = append(m.steps, nil)
		m.numbers[r] = number
	}
	return number
}

func (m *matcher) takeAll(s string) {
	for i := 0; i < len(s) && len(m.left) > 0; i++ {
		m.take(s[i])
	}
}

func (m *matcher) take(b byte) {
	next := m.spare
	clear(next)
	for _, number := range m.left {
		for _, s := range m.stepsOf(number) {
			if s.set.Has(b) {
				next[m.rests[s.then]] = s.then
			}
		}
	}
	m.left, m.spare = next, m.left
}

// mayEnd tells if the rest matches the empty string.
func (m *matcher) mayEnd(number int) bool {
	for ; number != 0; number = m.rests[number].then {
		if !m.rests[number].mayBeLeftOut() {
			return false
		}
	}
	return true
}

func (r rest) mayBeLeftOut() bool { return r.again || Nullable(r.tree) }

// stepsOf gives the steps of a rest, which are found once, since they are asked for at many bytes.
func (m *matcher) stepsOf(number int) []step {
	if m.steps[number] == nil {
		m.steps[number] = m.findSteps(number)
	}
	return m.steps[number]
}

// findSteps goes on to what is behind a tree as long as the tree may be left out.
func (m *matcher) findSteps(number int) []step {
	var found []step
	for number != 0 {
		r := m.rests[number]
		found = m.enter(r.tree, r.then, found)
		if !r.mayBeLeftOut() {
			break
		}
		number = r.then
	}
	return found
}

// enter finds the steps by which a tree begins, if the rest with the number then is behind it.
func (m *matcher) enter(tree *regex.Node, then int, found []step) []step {
	again := false
	switch tree.Kind {
	case regex.Class:
		if s := (step{tree.Set, then}); !slices.Contains(found, s) {
			found = append(found, s)
		}
	case regex.Cat:
		second := m.number(rest{tree: tree.Kids[1], then: then})
		found = m.enter(tree.Kids[0], second, found)
		if Nullable(tree.Kids[0]) {
			found = m.enter(tree.Kids[1], then, found)
		}
	case regex.Alt:
		found = m.enter(tree.Kids[0], then, found)
		found = m.enter(tree.Kids[1], then, found)
	case regex.Plus:
		again = true
		fallthrough
	case regex.Star:
		// Behind its child the same tree may follow once more.
		then = m.number(rest{tree: tree, then: then, again: again})
		fallthrough
	case regex.Quest:
		found = m.enter(tree.Kids[0], then, found)
	}
	return found
}
