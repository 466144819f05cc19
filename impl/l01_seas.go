package impl

import (
	"iter"
	"strconv"
	"strings"
)

// Codes of errors.
const (
	OK          = 0
	ErrInvalid  = 1
	ErrRange    = 2
	ErrLimit    = 3
	ErrState    = 4
	ErrSyntax   = 5
	ErrNotFound = 6
	ErrBudget   = 7
	ErrProof    = 8
)

// Numbers of seas.
const (
	Stride = 6
	Cells  = 36
	Parts  = 12
	Lost   = -1
)

// Ways of a bottle.
const (
	WyStay  = 0
	WyNorth = 1
	WyEast  = 2
	WySouth = 3
	WyWest  = 4
)

// Tides.
const (
	TdFlood = 0
	TdEbb   = 1
)

// Chances tell how many parts take each way.
type Chances [5]uint8

// Sea is a grid of water and land.
type Sea struct {
	Wide  int8
	High  int8
	Land  uint64
	Tides [2][36]Chances
}

// landLine stands for a cell of land in the text of a sea.
const landLine = "land"

// place is a place of the grid, or one beside it.
type place struct {
	x int64
	y int64
}

// wayFrom is a way: it tells the next place of a bottle.
type wayFrom func(place) place

func (p place) here() place  { return p }
func (p place) north() place { return place{p.x, p.y - 1} }
func (p place) east() place  { return place{p.x + 1, p.y} }
func (p place) south() place { return place{p.x, p.y + 1} }
func (p place) west() place  { return place{p.x - 1, p.y} }

// allWays returns the table of all ways, by their numbers.
func allWays() [5]wayFrom {
	return [5]wayFrom{
		WyStay:  place.here,
		WyNorth: place.north,
		WyEast:  place.east,
		WySouth: place.south,
		WyWest:  place.west,
	}
}

// placeOf returns the place of a number; only numbers of cells have one.
func placeOf(cell int64) place { return place{cell % Stride, cell / Stride} }

func cellOf(p place) int64 { return p.x + Stride*p.y }

func bitOf(cell int64) uint64 { return uint64(1) << cell }

func hasTide(tide int64) bool { return tide == TdFlood || tide == TdEbb }

func hasWay(way int64) bool { return way >= WyStay && way <= WyWest }

func hasPlace(s Sea, p place) bool {
	return p.x >= 0 && p.x < int64(s.Wide) && p.y >= 0 && p.y < int64(s.High)
}

// hasCell looks at the place as well as the number: a number within a row of
// Stride may lie beyond the last column.
func hasCell(s Sea, cell int64) bool {
	return cell >= 0 && cell < Cells && hasPlace(s, placeOf(cell))
}

// isLand and isWater are told of cells alone.
func isLand(s Sea, cell int64) bool { return s.Land&bitOf(cell) != 0 }

func isWater(s Sea, cell int64) bool { return !isLand(s, cell) }

// eachCell goes through all cells in ascending order.
func eachCell(s Sea) iter.Seq[int64] {
	wide, high := int64(s.Wide), int64(s.High)
	return func(yield func(int64) bool) {
		for y := range high {
			for x := range wide {
				if !yield(cellOf(place{x, y})) {
					return
				}
			}
		}
	}
}

// eachWater goes through all cells of water in ascending order.
func eachWater(s Sea) iter.Seq[int64] {
	return func(yield func(int64) bool) {
		for cell := range eachCell(s) {
			if isWater(s, cell) && !yield(cell) {
				return
			}
		}
	}
}

// cellBits returns the bits of all cells of a grid of 1 to Stride each way.
func cellBits(s Sea) uint64 {
	var bits uint64
	for cell := range eachCell(s) {
		bits |= bitOf(cell)
	}
	return bits
}

// leadsTo returns where a way leads from a cell.
func leadsTo(s Sea, cell, way int64) int64 {
	to := allWays()[way](placeOf(cell))
	if !hasPlace(s, to) {
		return Lost
	}
	return cellOf(to)
}

// besideAny returns the bits of all cells of some that have one of others
// beside them.
func besideAny(s Sea, some, others uint64) uint64 {
	var bits uint64
	for cell := range eachCell(s) {
		if some&bitOf(cell) != 0 && hasBeside(s, cell, others) {
			bits |= bitOf(cell)
		}
	}
	return bits
}

func hasBeside(s Sea, cell int64, others uint64) bool {
	for way := int64(WyNorth); way <= WyWest; way++ {
		to := leadsTo(s, cell, way)
		if to != Lost && others&bitOf(to) != 0 {
			return true
		}
	}
	return false
}

// seaCode, cellCode and spotCode check a sea first, and then what is asked of
// it.
func seaCode(s Sea) int64 {
	if !ValidSea(s) {
		return ErrInvalid
	}
	return OK
}

func cellCode(s Sea, cell int64) int64 {
	code := seaCode(s)
	if code == OK && !hasCell(s, cell) {
		return ErrRange
	}
	return code
}

func spotCode(s Sea, tide, cell int64) int64 {
	code := cellCode(s, cell)
	if code == OK && !hasTide(tide) {
		return ErrRange
	}
	return code
}

// CodeName returns the name of an error code.
func CodeName(code int64) string {
	names := [...]string{
		OK:          "ok",
		ErrInvalid:  "invalid",
		ErrRange:    "range",
		ErrLimit:    "limit",
		ErrState:    "state",
		ErrSyntax:   "syntax",
		ErrNotFound: "notfound",
		ErrBudget:   "budget",
		ErrProof:    "proof",
	}
	if code < 0 || code >= int64(len(names)) {
		return ""
	}
	return names[code]
}

// ValidChances reports whether chances are valid: they sum to Parts. The sum
// is an int, as one of uint8 could wrap around to Parts.
func ValidChances(c Chances) bool {
	sum := 0
	for _, parts := range c {
		sum += int(parts)
	}
	return sum == Parts
}

// ValidSea reports whether a sea is valid.
func ValidSea(s Sea) bool {
	if s.Wide < 1 || s.Wide > Stride || s.High < 1 || s.High > Stride {
		return false
	}
	if s.Land&^cellBits(s) != 0 {
		return false
	}
	for cell := range int64(Cells) {
		if !chancesFit(s, cell, s.Tides[TdFlood][cell]) || !chancesFit(s, cell, s.Tides[TdEbb][cell]) {
			return false
		}
	}
	return true
}

// chancesFit reports whether a number may have these chances: only water has
// any.
func chancesFit(s Sea, cell int64, c Chances) bool {
	if hasCell(s, cell) && isWater(s, cell) {
		return ValidChances(c)
	}
	return c == Chances{}
}

// SameSea reports whether two seas are equal, valid or not.
func SameSea(a, b Sea) bool {
	return sameCoasts(a, b) && a.Tides == b.Tides
}

// StillSea returns the sea in which all bottles stay.
func StillSea(wide, high int64, land uint64) (Sea, int64) {
	if wide < 1 || wide > Stride || high < 1 || high > Stride {
		return Sea{}, ErrRange
	}
	s := Sea{Wide: int8(wide), High: int8(high), Land: land}
	if land&^cellBits(s) != 0 {
		return Sea{}, ErrState
	}
	for cell := range eachWater(s) {
		setBoth(&s, cell, stillChances())
	}
	return s, OK
}

func stillChances() Chances { return Chances{WyStay: Parts} }

// setBoth sets the chances of a cell in both tides.
func setBoth(s *Sea, cell int64, c Chances) {
	s.Tides[TdFlood][cell] = c
	s.Tides[TdEbb][cell] = c
}

// CellAt returns the number of the cell at a place.
func CellAt(s Sea, x, y int64) (int64, int64) {
	if code := seaCode(s); code != OK {
		return 0, code
	}
	p := place{x, y}
	if !hasPlace(s, p) {
		return 0, ErrRange
	}
	return cellOf(p), OK
}

// GoesTo returns to which cell a way leads, Lost if it leads beyond the grid.
func GoesTo(s Sea, cell, way int64) (int64, int64) {
	if code := cellCode(s, cell); code != OK {
		return 0, code
	}
	if !hasWay(way) {
		return 0, ErrRange
	}
	return leadsTo(s, cell, way), OK
}

// CellsOf returns the bits of all cells.
func CellsOf(s Sea) (uint64, int64) {
	if code := seaCode(s); code != OK {
		return 0, code
	}
	return cellBits(s), OK
}

// WaterOf returns the bits of all water.
func WaterOf(s Sea) (uint64, int64) {
	if code := seaCode(s); code != OK {
		return 0, code
	}
	return waterBits(s), OK
}

func waterBits(s Sea) uint64 { return cellBits(s) &^ s.Land }

// BeachesOf returns the bits of all land beside water.
func BeachesOf(s Sea) (uint64, int64) {
	if code := seaCode(s); code != OK {
		return 0, code
	}
	return besideAny(s, s.Land, waterBits(s)), OK
}

// CoastOf returns the bits of all water beside land.
func CoastOf(s Sea) (uint64, int64) {
	if code := seaCode(s); code != OK {
		return 0, code
	}
	return besideAny(s, waterBits(s), s.Land), OK
}

// WithChances returns the sea with other chances of a cell in a tide.
func WithChances(s Sea, tide, cell int64, c Chances) (Sea, int64) {
	if !ValidChances(c) {
		return Sea{}, ErrInvalid
	}
	if code := spotCode(s, tide, cell); code != OK {
		return Sea{}, code
	}
	if isLand(s, cell) {
		return Sea{}, ErrState
	}
	s.Tides[tide][cell] = c
	return s, OK
}

// WithCurrent returns the sea with a current that takes parts from staying.
func WithCurrent(s Sea, way, part int64) (Sea, int64) {
	if code := seaCode(s); code != OK {
		return Sea{}, code
	}
	if !hasWay(way) || part < 0 || part > Parts {
		return Sea{}, ErrRange
	}
	for cell := range eachWater(s) {
		for tide := range s.Tides {
			s.Tides[tide][cell] = flowing(s.Tides[tide][cell], way, part)
		}
	}
	return s, OK
}

// flowing returns chances of which parts that stay are given to a way.
func flowing(c Chances, way, part int64) Chances {
	taken := min(uint8(part), c[WyStay])
	c[WyStay] -= taken
	c[way] += taken
	return c
}

// WithLand makes a cell of water land.
func WithLand(s Sea, cell int64) (Sea, int64) {
	if code := cellCode(s, cell); code != OK {
		return Sea{}, code
	}
	if isLand(s, cell) {
		return Sea{}, ErrState
	}
	s.Land |= bitOf(cell)
	setBoth(&s, cell, Chances{})
	return s, OK
}

// DrainLand makes a cell of land water in which bottles stay.
func DrainLand(s Sea, cell int64) (Sea, int64) {
	if code := cellCode(s, cell); code != OK {
		return Sea{}, code
	}
	if isWater(s, cell) {
		return Sea{}, ErrState
	}
	s.Land &^= bitOf(cell)
	setBoth(&s, cell, stillChances())
	return s, OK
}

// MirrorSea returns the sea in which east and west have changed places.
func MirrorSea(s Sea) (Sea, int64) {
	if code := seaCode(s); code != OK {
		return Sea{}, code
	}
	m := Sea{Wide: s.Wide, High: s.High}
	for cell := range eachCell(s) {
		p := placeOf(cell)
		to := cellOf(place{int64(s.Wide) - 1 - p.x, p.y})
		if isLand(s, cell) {
			m.Land |= bitOf(to)
		}
		for tide := range s.Tides {
			m.Tides[tide][to] = mirrored(s.Tides[tide][cell])
		}
	}
	return m, OK
}

func mirrored(c Chances) Chances {
	c[WyEast], c[WyWest] = c[WyWest], c[WyEast]
	return c
}

// SwapTides returns the sea with both tides exchanged.
func SwapTides(s Sea) (Sea, int64) {
	if code := seaCode(s); code != OK {
		return Sea{}, code
	}
	s.Tides[TdFlood], s.Tides[TdEbb] = s.Tides[TdEbb], s.Tides[TdFlood]
	return s, OK
}

// LikeliestWay returns the way of a cell with the most parts, and these.
func LikeliestWay(s Sea, tide, cell int64) (int64, int64, int64) {
	if code := spotCode(s, tide, cell); code != OK {
		return 0, 0, code
	}
	if isLand(s, cell) {
		return 0, 0, ErrState
	}
	c := s.Tides[tide][cell]
	best := WyStay
	for way, parts := range c {
		if parts > c[best] {
			best = way
		}
	}
	return int64(best), int64(c[best]), OK
}

// MeanFlow returns the sums of all flows to the east and to the south.
func MeanFlow(s Sea, tide int64) (int64, int64, int64) {
	if code := seaCode(s); code != OK {
		return 0, 0, code
	}
	if !hasTide(tide) {
		return 0, 0, ErrRange
	}
	var east, south int64
	for cell := range eachWater(s) {
		c := s.Tides[tide][cell]
		east += int64(c[WyEast]) - int64(c[WyWest])
		south += int64(c[WySouth]) - int64(c[WyNorth])
	}
	return east, south, OK
}

// DifferAt returns the first tide and cell at which the chances of two seas
// differ.
func DifferAt(a, b Sea) (int64, int64, int64) {
	if !ValidSea(a) || !ValidSea(b) {
		return 0, 0, ErrInvalid
	}
	if !sameCoasts(a, b) {
		return 0, 0, ErrState
	}
	for tide := range a.Tides {
		for cell := range eachCell(a) {
			if a.Tides[tide][cell] != b.Tides[tide][cell] {
				return int64(tide), cell, OK
			}
		}
	}
	return 0, 0, ErrNotFound
}

// sameCoasts reports whether two seas differ in nothing but their chances.
func sameCoasts(a, b Sea) bool {
	return a.Wide == b.Wide && a.High == b.High && a.Land == b.Land
}

// ChancesText returns the text of chances, the empty one if they are not
// valid.
func ChancesText(c Chances) string {
	if !ValidChances(c) {
		return ""
	}
	var numbers [len(c)]string
	for way, parts := range c {
		numbers[way] = strconv.Itoa(int(parts))
	}
	return strings.Join(numbers[:], ",")
}

// ReadChances returns the valid chances with a text. What has been read is
// told again, so that signs and leading zeros are no text of chances.
func ReadChances(text string) (Chances, int64) {
	var c Chances
	numbers := strings.Split(text, ",")
	if len(numbers) != len(c) {
		return Chances{}, ErrSyntax
	}
	for way, number := range numbers {
		parts, err := strconv.ParseUint(number, 10, 8)
		if err != nil {
			return Chances{}, ErrSyntax
		}
		c[way] = uint8(parts)
	}
	if ChancesText(c) != text {
		return Chances{}, ErrSyntax
	}
	return c, OK
}

// SeaText returns the text of a sea, the empty one if it is not valid. The
// same chances come again and again, so each of their texts is made once.
func SeaText(s Sea) string {
	if !ValidSea(s) {
		return ""
	}
	texts := map[Chances]string{}
	var b strings.Builder
	b.WriteString(strconv.Itoa(int(s.Wide)) + " " + strconv.Itoa(int(s.High)) + "\n")
	for cell := range eachCell(s) {
		line := landLine
		if isWater(s, cell) {
			line = textIn(texts, s.Tides[TdFlood][cell]) + " " + textIn(texts, s.Tides[TdEbb][cell])
		}
		b.WriteString(line + "\n")
	}
	return b.String()
}

// textIn returns the text of chances from those that are known, and adds it.
func textIn(texts map[Chances]string, c Chances) string {
	text, known := texts[c]
	if !known {
		text = ChancesText(c)
		texts[c] = text
	}
	return text
}

// ReadSea returns the valid sea with a text. As with chances, what has been
// read is told again: it is the sea with this text, or there is none.
func ReadSea(text string) (Sea, int64) {
	first, rest, _ := strings.Cut(text, "\n")
	s, ok := readGrid(first)
	if !ok {
		return Sea{}, ErrSyntax
	}
	for cell := range eachCell(s) {
		var line string
		line, rest, _ = strings.Cut(rest, "\n")
		if !readCell(&s, cell, line) {
			return Sea{}, ErrSyntax
		}
	}
	if SeaText(s) != text {
		return Sea{}, ErrSyntax
	}
	return s, OK
}

// readGrid returns a sea of the size that a line tells, without any chances.
func readGrid(line string) (Sea, bool) {
	wideText, highText, _ := strings.Cut(line, " ")
	wide, err := strconv.ParseInt(wideText, 10, 8)
	if err != nil || wide < 1 || wide > Stride {
		return Sea{}, false
	}
	high, err := strconv.ParseInt(highText, 10, 8)
	if err != nil || high < 1 || high > Stride {
		return Sea{}, false
	}
	return Sea{Wide: int8(wide), High: int8(high)}, true
}

// readCell puts what a line tells of a cell into the sea.
func readCell(s *Sea, cell int64, line string) bool {
	if line == landLine {
		s.Land |= bitOf(cell)
		return true
	}
	flood, ebb, _ := strings.Cut(line, " ")
	var floodCode, ebbCode int64
	s.Tides[TdFlood][cell], floodCode = ReadChances(flood)
	s.Tides[TdEbb][cell], ebbCode = ReadChances(ebb)
	return floodCode == OK && ebbCode == OK
}

// SeaPicture returns a line for each row of cells, from north to south.
func SeaPicture(s Sea) ([]string, int64) {
	if code := seaCode(s); code != OK {
		return nil, code
	}
	coast := besideAny(s, waterBits(s), s.Land)
	rows := make([]string, s.High)
	for cell := range eachCell(s) {
		rows[placeOf(cell).y] += cellSign(s, cell, coast)
	}
	return rows, OK
}

// cellSign returns how a picture shows a cell.
func cellSign(s Sea, cell int64, coast uint64) string {
	switch {
	case isLand(s, cell):
		return "#"
	case coast&bitOf(cell) != 0:
		return ","
	}
	return "."
}
