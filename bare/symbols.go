package bare

import (
	"bellows/api"
	"bellows/codes"
	"bellows/copies"
	"bellows/feed"
)

// The symbols at which the way to read them changes.
const (
	endSymbol     = 256
	firstLength   = 257
	firstWithBits = 265
	lastLength    = 285
)

// readLength reads what belongs to a length's symbol: how long the copy is.
func readLength(from *feed.Feed, symbol int) (int, api.Errno) {
	switch {
	case symbol > lastLength:
		return 0, api.ErrSymbol
	case symbol == lastLength:
		return copies.Longest, api.OK
	case symbol < firstWithBits:
		return symbol - firstLength + copies.Shortest, api.OK
	}
	bits := (symbol - 261) / 4
	least := (4+(symbol-firstWithBits)%4)<<bits + copies.Shortest
	return least + from.Number(bits), api.OK
}

// readDistance reads a distance: its code and what belongs to it.
func readDistance(from *feed.Feed, table codes.Table) (int, api.Errno) {
	symbol, err := table.Read(from)
	switch {
	case err != api.OK:
		return 0, err
	case symbol >= api.Distances:
		return 0, api.ErrSymbol
	case symbol < 4:
		return symbol + 1, api.OK
	}
	bits := symbol/2 - 1
	least := (2+symbol%2)<<bits + 1
	return least + from.Number(bits), api.OK
}
