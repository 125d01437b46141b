package codec

// reader reads encodings from a text, beginning at an offset. Its methods move the offset behind what they have read, and report whether it was there.
type reader struct {
	text string
	at   int
}

// value reads the encoding of a value with at most the given depth.
func (r *reader) value(depth int) (Value, bool) {
	mark, ok := r.next()
	if !ok {
		return Value{}, false
	}
	switch mark {
	case numberMark:
		return r.number()
	case textMark:
		return r.words()
	case listMark:
		return r.list(depth)
	}
	return Value{}, false
}

func (r *reader) number() (Value, bool) {
	count, ok := r.count()
	if !ok {
		return Value{}, false
	}
	return Num(unfold(count)), true
}

func (r *reader) words() (Value, bool) {
	count, ok := r.count()
	if !ok || count > uint64(len(r.text)-r.at) {
		return Value{}, false
	}
	from := r.at
	r.at += int(count)
	return Str(r.text[from:r.at]), true
}

// list reads the count and the items of a list. The items are not reserved at once, since the count may be a lie.
func (r *reader) list(depth int) (Value, bool) {
	count, ok := r.count()
	if !ok || depth == 0 {
		return Value{}, false
	}
	v := Value{Kind: List}
	for range count {
		item, ok := r.value(depth - 1)
		if !ok {
			return Value{}, false
		}
		v.Items = append(v.Items, item)
	}
	return v, true
}

// count reads a count of at most 64 bits; greater ones belong to no value.
func (r *reader) count() (uint64, bool) {
	var count uint64
	for shift := 0; shift < 64; shift += 7 {
		b, ok := r.next()
		if !ok {
			return 0, false
		}
		group := uint64(b & 127)
		if group<<shift>>shift != group {
			return 0, false
		}
		count |= group << shift
		if b < 128 {
			// A last group of 0 behind other groups is one more than needed.
			return count, b > 0 || shift == 0
		}
	}
	return 0, false
}

func (r *reader) next() (byte, bool) {
	if r.at >= len(r.text) {
		return 0, false
	}
	b := r.text[r.at]
	r.at++
	return b, true
}
