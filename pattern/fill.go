package pattern

import (
	"sextant/api"
	"sextant/fresh"
)

// filling is the work on one outcome: how many nodes may still be laid down.
type filling struct{ left int }

func (f *filling) lay(count int) api.Errno {
	f.left -= count
	if f.left < 0 {
		return api.ErrLarge
	}
	return api.OK
}

func (f *filling) fill(t api.Datum, s meanings) (api.Datum, api.Errno) {
	switch t.Kind {
	case api.Symbol:
		return f.symbol(t, s)
	case api.Pair:
		if inner, ok := s.escaped(t); ok {
			return f.fill(inner, s.withoutEllipsis())
		}
		return f.list(t, s)
	case api.Vector:
		return f.vector(t, s)
	}
	return f.itself(t)
}

func (f *filling) symbol(t api.Datum, s meanings) (api.Datum, api.Errno) {
	if s.isEllipsis(t.Text) {
		return api.Datum{}, api.ErrForms
	}
	match := s.matchOf(t.Text)
	switch {
	case match == nil:
		return f.itself(t)
	case match.Depth > 0:
		return api.Datum{}, api.ErrForms
	}
	return f.itself(match.Value)
}

// itself lays a whole datum down. Its nodes are counted ahead of being copied, so that no more is copied than there is room for.
func (f *filling) itself(d api.Datum) (api.Datum, api.Errno) {
	if e := f.lay(nodes(d)); e != api.OK {
		return api.Datum{}, e
	}
	return fresh.Datum(d), api.OK
}

func (f *filling) list(t api.Datum, s meanings) (api.Datum, api.Errno) {
	parts, rest := cut(t, pairs(t))
	items, e := f.items(parts, s)
	if e != api.OK {
		return api.Datum{}, e
	}
	last, e := f.fill(rest, s)
	if e != api.OK {
		return api.Datum{}, e
	}
	return linked(items, last), f.lay(len(items))
}

func (f *filling) vector(t api.Datum, s meanings) (api.Datum, api.Errno) {
	items, e := f.items(t.List, s)
	if e != api.OK {
		return api.Datum{}, e
	}
	return api.Datum{Kind: api.Vector, List: items}, f.lay(1)
}

// items fills those of a list or a vector, each with as many ellipses as stand behind it.
func (f *filling) items(parts []api.Datum, s meanings) ([]api.Datum, api.Errno) {
	var out []api.Datum
	for len(parts) > 0 {
		ellipses := s.ellipsesAt(parts[1:])
		more, e := f.repeat(parts[0], ellipses, s, out)
		if e != api.OK {
			return nil, e
		}
		parts, out = parts[1+ellipses:], more
	}
	return out, api.OK
}

// repeat puts the outcomes of an item with so many ellipses behind it behind those that are there.
func (f *filling) repeat(item api.Datum, ellipses int, s meanings, out []api.Datum) ([]api.Datum, api.Errno) {
	if ellipses == 0 {
		one, e := f.fill(item, s)
		return append(out, one), e
	}
	vars := map[string]*api.Match{}
	s.gather(item, vars)
	count, e := rounds(vars)
	for i := 0; i < count && e == api.OK; i++ {
		out, e = f.repeat(item, ellipses-1, s.with(inRound(vars, i)), out)
	}
	return out, e
}
