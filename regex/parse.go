package regex

import (
	"strings"

	"almanac/api"
)

// Parse: the tree of a pattern.
func Parse(pattern string) (tree *Node, code api.Errno) {
	defer func() {
		if failure := recover(); failure != nil {
			tree, code = nil, failure.(api.Errno)
		}
	}()
	return parse(pattern), api.OK
}

// parse reports an error by panic, as all that it calls does, since an error may be found deep in the tree.
func parse(pattern string) *Node {
	if len(pattern) > api.MaxPattern {
		panic(api.ErrPattern)
	}
	p := parser{rest: pattern}
	tree := p.pattern()
	// A pattern ends at a bracket that closes, or at the end; here no bracket is open.
	if p.rest != "" {
		panic(api.ErrClose)
	}
	return tree
}

// parser goes through a pattern from left to right, so that the error at the first position is the one that
// it comes to.
type parser struct {
	rest string // what has not been read yet
	open int    // the brackets that are open
}

// pattern reads branches up to the end, or to a bracket that closes.
func (p *parser) pattern() *Node {
	tree := p.branch()
	for p.skip('|') {
		tree = parent(Alt, tree, p.branch())
	}
	return tree
}

func (p *parser) branch() *Node {
	if p.branchEnds() {
		return parent(Empty)
	}
	tree := p.piece()
	for !p.branchEnds() {
		tree = parent(Cat, tree, p.piece())
	}
	return tree
}

func (p *parser) branchEnds() bool { return p.rest == "" || p.begins("|)") }

func (p *parser) piece() *Node {
	tree := p.atom()
	for {
		switch {
		case p.skip('*'):
			tree = parent(Star, tree)
		case p.skip('+'):
			tree = parent(Plus, tree)
		case p.skip('?'):
			tree = parent(Quest, tree)
		default:
			return tree
		}
	}
}

func (p *parser) atom() *Node {
	var set Set
	switch {
	case p.begins("*+?"):
		panic(api.ErrRepeat)
	case p.skip('('):
		return p.group()
	case p.skip('['):
		set = p.class()
	case p.skip('.'):
		set = set.others()
	default:
		letter := p.letter()
		set.add(letter, letter)
	}
	return &Node{Kind: Class, Set: set}
}

// group reads what stands behind an opening bracket, and the bracket that closes it.
func (p *parser) group() *Node {
	p.open++
	if p.open > api.MaxNest {
		panic(api.ErrNest)
	}
	tree := p.pattern()
	if !p.skip(')') {
		panic(api.ErrOpen)
	}
	p.open--
	return tree
}

// class reads a class, and holds its error back up to its end: a backslash at the end of the pattern in it
// is the error, whatever else is wrong.
func (p *parser) class() Set {
	var set Set
	negated := p.skip('^')
	fits := !p.begins("]")
	for !p.skip(']') {
		if p.rest == "" {
			panic(api.ErrClass)
		}
		first, last := p.item()
		fits = fits && first <= last
		set.add(first, last)
	}
	if negated {
		set = set.others()
	}
	if !fits || set == (Set{}) {
		panic(api.ErrClass)
	}
	return set
}

// item reads an item of a class, and gives the first and the last one of its bytes.
func (p *parser) item() (byte, byte) {
	first := p.letter()
	// A - is a letter ahead of the end of the class. Behind one that ends the pattern there is no letter;
	// such a class is not ended.
	if !p.begins("-") || len(p.rest) == 1 || p.rest[1] == ']' {
		return first, first
	}
	p.skip('-')
	return first, p.letter()
}

// letter reads a byte, or a backslash and a byte, in a class or outside of one; there is something to read.
func (p *parser) letter() byte {
	switch {
	case p.skip('\\'):
		if p.rest == "" {
			panic(api.ErrEscape)
		}
		fallthrough
	default:
		letter := p.rest[0]
		p.rest = p.rest[1:]
		return letter
	}
}

// begins tells if the next byte is one of these.
func (p *parser) begins(bytes string) bool {
	return p.rest != "" && strings.IndexByte(bytes, p.rest[0]) >= 0
}

// skip goes past this byte if it is the next one, and tells if it is.
func (p *parser) skip(b byte) bool {
	if p.rest == "" || p.rest[0] != b {
		return false
	}
	p.rest = p.rest[1:]
	return true
}

func parent(kind Kind, kids ...*Node) *Node { return &Node{Kind: kind, Kids: kids} }
