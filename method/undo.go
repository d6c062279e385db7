package method

import (
	"cassone/api"
	"cassone/lzdec"
	"cassone/ppm"
)

// Undo a method: a text of so many bytes.
func Undo(method uint8, data string, n, most int) (string, api.Errno) {
	if n > most {
		return "", api.ErrLimit
	}
	if n < 0 {
		return "", api.ErrForm
	}
	s, ok := undo(method, data, n)
	if !ok {
		return "", api.ErrForm
	}
	return s, api.OK
}

func undo(method uint8, data string, n int) (string, bool) {
	switch method {
	case Stored:
		return data, len(data) == n
	case Lz:
		return undoLz(data, n)
	case Ppm:
		return undoPpm(data, n)
	}
	return "", false
}

func undoLz(data string, n int) (string, bool) {
	if data == "" {
		return "", false
	}
	// Of Params that may not be layer 11 tells an error.
	s, e := lzdec.Decode(data[1:], getParams(data[0]), n, n)
	return s, e == api.OK
}

func undoPpm(data string, n int) (string, bool) {
	if len(data) < ppmHead {
		return "", false
	}
	order, cells := getContexts(data)
	if !goodContexts(order, cells) {
		return "", false
	}
	s, e := ppm.Decode(data[ppmHead:], order, cells, n)
	return s, e == api.OK
}
