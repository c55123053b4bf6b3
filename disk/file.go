package disk

// file has its bytes as they are now; its durable bytes are those that are left when its steps are undone, the last one first.
type file struct {
	bytes []byte
	steps []bytesStep
}

// bytesStep is a Cut with what it took away, or Appends in a row with the number of their bytes: units count alike, however many Appends they are in.
type bytesStep struct {
	isCut bool
	taken string
	added int
}

func (s bytesStep) units() int {
	if s.isCut {
		return 1
	}
	return s.added
}

// units are those of all steps that aren't durable.
func (f *file) units() int {
	total := 0
	for _, step := range f.steps {
		total += step.units()
	}
	return total
}

func (f *file) extend(parts []string) {
	before := len(f.bytes)
	for _, part := range parts {
		f.bytes = append(f.bytes, part...)
	}
	added := len(f.bytes) - before
	if last := len(f.steps) - 1; last >= 0 && !f.steps[last].isCut {
		f.steps[last].added += added
		return
	}
	f.steps = append(f.steps, bytesStep{added: added})
}

func (f *file) shorten(size int) {
	f.steps = append(f.steps, bytesStep{isCut: true, taken: string(f.bytes[size:])})
	f.bytes = f.bytes[:size]
}

// keep leaves the first units of the steps and loses the others; what is left then is durable.
func (f *file) keep(units int, zeros bool) {
	lost := f.units() - units
	cutLost := f.undo(lost)
	if zeros && !cutLost {
		f.bytes = append(f.bytes, make([]byte, lost)...)
	}
	f.steps = nil
}

// undo takes back the last units, and tells if a Cut is among them.
func (f *file) undo(units int) (cutLost bool) {
	for last := len(f.steps) - 1; units > 0; last-- {
		step := f.steps[last]
		if step.isCut {
			f.bytes = append(f.bytes, step.taken...)
			units--
			cutLost = true
			continue
		}
		lost := min(units, step.added)
		f.bytes = f.bytes[:len(f.bytes)-lost]
		units -= lost
	}
	return cutLost
}
