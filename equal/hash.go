package equal

import "sextant/api"

// The numbers of the FNV-1a hash of 64 bits.
const (
	start uint64 = 14695981039346656037
	prime uint64 = 1099511628211
)

// with takes one more number into a hash. A product carries upwards alone, so the high half is brought down to the low one.
func with(hash, n uint64) uint64 {
	hash = (hash ^ n) * prime
	return hash ^ hash>>32
}

// withDatum takes a sound datum in. Kinds and lengths go ahead of what they tell of, so that no two trees are taken in as the same numbers.
func withDatum(hash uint64, d api.Datum) uint64 {
	for d.Kind == api.Pair { // a loop, since there may be far more seconds on a way than MaxDepth
		hash = withDatum(with(hash, api.Pair), d.List[0])
		d = d.List[1]
	}
	hash = with(hash, uint64(d.Kind))
	switch d.Kind {
	case api.Bool, api.Char:
		return with(hash, uint64(d.N))
	case api.Number:
		return withFraction(withFraction(hash, d.Num.Re), d.Num.Im)
	case api.String, api.Symbol, api.Other:
		return withList(hash, []byte(d.Text))
	case api.Bytes:
		return withList(hash, d.Raw)
	case api.Vector:
		return withVector(hash, d.List)
	}
	return hash // Nil and Void
}

func withVector(hash uint64, items []api.Datum) uint64 {
	hash = with(hash, uint64(len(items)))
	for _, item := range items {
		hash = withDatum(hash, item)
	}
	return hash
}

func withFraction(hash uint64, r api.Rat) uint64 {
	sign := uint64(0)
	if r.Neg {
		sign = 1
	}
	return withList(withList(with(hash, sign), r.Top), r.Bot)
}

func withList[T byte | uint32](hash uint64, list []T) uint64 {
	hash = with(hash, uint64(len(list)))
	for _, n := range list {
		hash = with(hash, uint64(n))
	}
	return hash
}
